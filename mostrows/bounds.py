"""How many answers and looks there can be, by a cover."""

from mostrows.covers import first_uncovered
from mostrows.errors import NoCover
from mostrows.powers import to_power
from mostrows.questions import columns_of


def root(number, power):
    # Of so great a power, that of 2 is above the number already; and a power may be too great to reckon.
    if number.bit_length() <= power:
        return 1 if number > 0 else 0
    above = 2
    while to_power(above, power) <= number:
        above = above * 2
    low = above // 2
    while above - low > 1:
        middle = (low + above) // 2
        if to_power(middle, power) <= number:
            low = middle
        else:
            above = middle
    return low


def look_cover(question, shares):
    column = first_uncovered(question, shares)
    if column is not None:
        raise NoCover(column)


def sizes_to_shares(house, shares):
    product = 1
    for rows, number in zip(house, shares[1]):
        product = product * to_power(len(rows), number)
    return product


def most(question, house, shares):
    look_cover(question, shares)
    return root(sizes_to_shares(house, shares), shares[0])


def looks_fit(question, house, shares, looks):
    look_cover(question, shares)
    factor = len(columns_of(question)) * len(question)
    return to_power(looks, shares[0]) <= sizes_to_shares(house, shares) * to_power(factor, shares[0])
