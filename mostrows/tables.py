"""Tables: looked at, cut down, kept by a value, joined and thinned."""

from mostrows.errors import BadTable
from mostrows.names import are_unlike_names

GREATEST = 999


def is_value(number):
    # Python counts a truth as an int; here it is no whole number.
    return isinstance(number, int) and not isinstance(number, bool) and 0 <= number <= GREATEST


def is_row(width, row):
    return len(row) == width and all([is_value(number) for number in row])


def first_wrong_row(width, rows):
    for at, row in enumerate(rows):
        if not is_row(width, row):
            return at
        if at > 0 and not rows[at - 1] < row:
            return at
    return None


def look_table(table):
    if not are_unlike_names(table[0]):
        raise BadTable(-1)
    at = first_wrong_row(len(table[0]), table[1])
    if at is not None:
        raise BadTable(at)
    return True


def table_of(columns, rows):
    return (tuple(columns), tuple(sorted(set(rows))))


def places_of(columns, some):
    return [columns.index(column) for column in some]


def picked(row, places):
    return tuple([row[place] for place in places])


def cut(table, columns):
    places = places_of(table[0], columns)
    return table_of(columns, [picked(row, places) for row in table[1]])


def kept(table, column, value):
    place = table[0].index(column)
    return (table[0], tuple([row for row in table[1] if row[place] == value]))


def values_in(table, column):
    place = table[0].index(column)
    return sorted(set([row[place] for row in table[1]]))


def common_columns(one, other):
    return [column for column in one[0] if column in other[0]]


def grouped(table, columns, others):
    # Found by their values in columns, rows need not be walked again for each row that seeks its like.
    places = places_of(table[0], columns)
    other_places = places_of(table[0], others)
    groups = {}
    for row in table[1]:
        groups.setdefault(picked(row, places), []).append(picked(row, other_places))
    return groups


def joined(one, other):
    common = common_columns(one, other)
    added = [column for column in other[0] if column not in one[0]]
    ends = grouped(other, common, added)
    places = places_of(one[0], common)
    rows = []
    for row in one[1]:
        rows.extend([row + end for end in ends.get(picked(row, places), [])])
    return table_of(one[0] + tuple(added), rows)


def thinned_by(one, other):
    common = common_columns(one, other)
    there = grouped(other, common, [])
    places = places_of(one[0], common)
    return (one[0], tuple([row for row in one[1] if picked(row, places) in there]))


def all_joined(tables):
    # The row without values changes no table that it is joined with, so it stands for no table at all.
    whole = ((), ((),))
    for table in tables:
        whole = joined(whole, table)
    return whole
