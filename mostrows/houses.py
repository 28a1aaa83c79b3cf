"""Houses: rows for the tables of a question."""

from mostrows.errors import BadHouse
from mostrows.questions import belonging, columns_of, names_of
from mostrows.tables import all_joined, first_wrong_row, picked, places_of

FIT = 3000


def look_house(question, house):
    for at, pair in enumerate(question):
        if at >= len(house) or first_wrong_row(len(pair[1]), house[at]) is not None:
            raise BadHouse(pair[0])
    if len(house) > len(question):
        raise BadHouse("")
    return True


def tables_of(question, house):
    return [(pair[1], rows) for pair, rows in zip(question, house)]


def named_tables(question, house):
    return dict(zip(names_of(question), tables_of(question, house)))


def is_fit(house):
    product = 1
    for rows in house:
        # A table without rows would hide how great the others are.
        if len(rows) > 0:
            product = product * len(rows)
    return product <= FIT


def is_answer(question, house, row):
    every = columns_of(question)
    if len(row) != len(every):
        return False
    return all([picked(row, places_of(every, columns)) in rows for columns, rows in tables_of(question, house)])


def answers(question, house):
    # Joined one behind the other, tables bring their columns in the order in which these first stand.
    return all_joined(tables_of(question, house))[1]


def house_part(question, house, tables):
    return belonging(question, house, tables)
