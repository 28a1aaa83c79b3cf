"""What the tests share: the document's words done the slow way, and made-up tables by a fixed seed."""

import itertools
import random


def row_as_dict(columns, row):
    return dict(zip(columns, row))


def alike(columns, row, other_columns, other_row):
    one = row_as_dict(columns, row)
    other = row_as_dict(other_columns, other_row)
    return all(one[column] == other[column] for column in one if column in other)


def slow_cut(table, columns):
    rows = {tuple(row_as_dict(table[0], row)[column] for column in columns) for row in table[1]}
    return (tuple(columns), tuple(sorted(rows)))


def slow_joined(one, other):
    columns = one[0] + tuple(column for column in other[0] if column not in one[0])
    rows = []
    for row in one[1]:
        for other_row in other[1]:
            if alike(one[0], row, other[0], other_row):
                values = {**row_as_dict(one[0], row), **row_as_dict(other[0], other_row)}
                rows.append(tuple(values[column] for column in columns))
    return (columns, tuple(sorted(set(rows))))


def slow_thinned(one, other):
    rows = [row for row in one[1] if any(alike(one[0], row, other[0], seen) for seen in other[1])]
    return (one[0], tuple(rows))


def made_rows(chance, width, most, values):
    every = list(itertools.product(range(values), repeat=width))
    number = chance.randint(0, min(most, len(every)))
    return tuple(sorted(chance.sample(every, number)))


def made_table(chance, names="abcdef", width=None, most=8, values=3):
    if width is None:
        width = chance.randint(0, 4)
    columns = tuple(chance.sample(names, width))
    return (columns, made_rows(chance, width, most, values))


def made_tables(seed, number):
    chance = random.Random(seed)
    return [made_table(chance) for count in range(number)]
