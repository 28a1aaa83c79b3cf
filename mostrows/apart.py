"""A table taken apart by rows of columns, and joined again."""

from mostrows.tables import all_joined, cut


def apart(table, some):
    return [cut(table, columns) for columns in some]


def together(table, some):
    again = cut(all_joined(apart(table, some)), table[0])
    for row in again[1]:
        if row not in table[1]:
            return ("more", row)
    return ("same",)
