"""How many answers there are, counted along the ears without making them."""

from mostrows.ears import list_of_ears
from mostrows.houses import named_tables
from mostrows.questions import names_of
from mostrows.tables import common_columns, picked, places_of


def keys_of(table, columns):
    places = places_of(table[0], columns)
    return [picked(row, places) for row in table[1]]


def summed(table, columns, counts):
    sums = {}
    for key, count in zip(keys_of(table, columns), counts):
        sums[key] = sums.get(key, 0) + count
    return sums


def multiplied(table, columns, counts, sums):
    return [count * sums.get(key, 0) for key, count in zip(keys_of(table, columns), counts)]


def gathered(tables, held):
    # When all ears that a table holds are gone by, its row's count is how many answers of these tables have the row.
    counts = {}
    for name in tables:
        counts[name] = [1] * len(tables[name][1])
    for name, holder in held:
        common = common_columns(tables[name], tables[holder])
        sums = summed(tables[name], common, counts[name])
        counts[holder] = multiplied(tables[holder], common, counts[holder], sums)
    return counts


def handed_out(one, holder, counts, holder_counts):
    # The answers that the holder's rows have are shared out among the ear's rows alike to them, by what each gathered.
    common = common_columns(one, holder)
    own = summed(one, common, counts)
    whole = summed(holder, common, holder_counts)
    shares = []
    for key, count in zip(keys_of(one, common), counts):
        shares.append(count * whole.get(key, 0) // own[key] if count > 0 else 0)
    return shares


def how_many(question, house):
    taken = list_of_ears(question)
    counts = gathered(named_tables(question, house), taken[:-1])
    return sum(counts[taken[-1][0]])


def through(question, house):
    held = list_of_ears(question)[:-1]
    tables = named_tables(question, house)
    counts = gathered(tables, held)
    for name, holder in reversed(held):
        counts[name] = handed_out(tables[name], tables[holder], counts[name], counts[holder])
    return tuple([tuple(counts[name]) for name in names_of(question)])
