"""Full houses: tables of all rows over so many values of each column."""

from mostrows.errors import TooMany
from mostrows.houses import FIT, is_fit
from mostrows.powers import to_power
from mostrows.questions import columns_of

MOST_ROWS = 1000


def product_of(numbers):
    product = 1
    for number in numbers:
        product = product * number
    return product


def all_rows(counts):
    rows = [()]
    for count in counts:
        longer = []
        for row in rows:
            longer.extend([row + (value,) for value in range(count)])
        rows = longer
    return tuple(rows)


def full_table(counts):
    # No column has fewer than one value, so none has more values than its table has rows.
    if product_of(counts) > MOST_ROWS:
        raise TooMany(FIT)
    return all_rows(counts)


def full_house(question, base, weights):
    counts = dict(zip(columns_of(question), [to_power(base, number) for number in weights[1]]))
    house = tuple([full_table([counts[column] for column in pair[1]]) for pair in question])
    if not is_fit(house):
        raise TooMany(FIT)
    return house
