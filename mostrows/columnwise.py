"""Answers made column by column."""

from mostrows.houses import tables_of
from mostrows.questions import columns_of
from mostrows.tables import cut, grouped, picked, places_of


def first_rows(house):
    return [()] if all([len(rows) > 0 for rows in house]) else []


def tellers_of(tables, gone, column):
    tellers = []
    for table in tables:
        if column in table[0]:
            known = tuple([one for one in gone if one in table[0]])
            # Cut down first, the table has each value once among rows that are alike so far.
            lists = grouped(cut(table, known + (column,)), known, (column,))
            tellers.append((places_of(gone, known), lists))
    return tellers


def in_all(end, lists):
    return all([end in one for one in lists])


def by_columns(question, house, order):
    tables = tables_of(question, house)
    rows = first_rows(house)
    levels = []
    looks = 0
    for at, column in enumerate(order):
        tellers = tellers_of(tables, order[:at], column)
        longer = []
        for row in rows:
            told = [lists[picked(row, places)] for places, lists in tellers]
            shortest = min(told, key=len)
            looks += len(shortest) * len(told)
            longer.extend([row + end for end in shortest if in_all(end, told)])
        rows = longer
        levels.append(len(rows))
    return (cut((order, rows), columns_of(question))[1], tuple(levels), looks)
