"""The answer at a place, the place of a row, an answer that has a row; found without making the answers."""

from mostrows.counting import how_many, summed, through
from mostrows.errors import NoAnswer
from mostrows.houses import tables_of
from mostrows.questions import columns_of
from mostrows.tables import kept


def counts_by_value(question, house, column):
    # Each answer has just one row of a table, so that one table that has the column counts them all.
    at = [column in columns for name, columns in question].index(True)
    return summed(tables_of(question, house)[at], (column,), through(question, house)[at])


def house_kept(question, house, column, value):
    tables = tables_of(question, house)
    return tuple([kept(table, column, value)[1] if column in table[0] else table[1] for table in tables])


def value_at(counts, place):
    ahead = 0
    for key, count in sorted(counts.items()):
        if place < ahead + count:
            return (key[0], place - ahead)
        ahead += count
    raise NoAnswer()


def answer_at(question, house, k):
    left = house
    place = k
    row = ()
    for column in columns_of(question):
        found = value_at(counts_by_value(question, left, column), place)
        left = house_kept(question, left, column, found[0])
        place = found[1]
        row = row + (found[0],)
    return row


def place_of(question, house, row):
    left = house
    place = 0
    for column, value in zip(columns_of(question), row):
        counts = counts_by_value(question, left, column)
        place += sum([count for key, count in counts.items() if key[0] < value])
        left = house_kept(question, left, column, value)
    return place


def rows_like(rows, row):
    return tuple([one for one in rows if one == row])


def shown(question, house, name, row):
    # Where the table has no such row, it is left without rows, and so there is no answer.
    only = tuple([rows_like(rows, row) if pair[0] == name else rows for pair, rows in zip(question, house)])
    if how_many(question, only) == 0:
        return None
    return answer_at(question, only, 0)
