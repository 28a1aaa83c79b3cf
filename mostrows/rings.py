"""Rings: columns for which not all tables can be taken off."""

from mostrows.parts import all_parts
from mostrows.questions import columns_of

FEWEST = 3


def sets_in(question, columns):
    # Told in the order of these columns, like sets are like tuples.
    found = []
    for name, own in question:
        one = tuple([column for column in columns if column in own])
        if one not in found:
            found.append(one)
    return found


def lies_within(one, other):
    return one != other and all([column in other for column in one])


def widest_sets(question, columns):
    found = sets_in(question, columns)
    return [one for one in found if not any([lies_within(one, other) for other in found])]


def neighbours(columns):
    pairs = [columns[at:at + 2] for at in range(len(columns) - 1)]
    return pairs + [(columns[0], columns[-1])]


def all_but_one(columns):
    return [columns[:at] + columns[at + 1:] for at in range(len(columns))]


def is_ring(question, columns):
    if len(columns) < FEWEST or len(set(columns)) < len(columns):
        return False
    found = sorted(widest_sets(question, columns))
    # Of three columns the neighbours are the sets of all but one, so that they need no bound of their own.
    return found == sorted(all_but_one(columns)) or found == sorted(neighbours(columns))


def stand_together(question, one, other):
    return any([one in columns and other in columns for name, columns in question])


def walked(question, columns):
    # If these columns make a ring, each next one that is a neighbour leads about it, whichever is taken.
    way = columns[:1]
    for step in columns[1:]:
        ahead = [column for column in columns if column not in way and stand_together(question, way[-1], column)]
        way = way + tuple(ahead[:1])
    return way


def ring_of(question):
    for columns in all_parts(columns_of(question)):
        way = walked(question, columns)
        if is_ring(question, way):
            return way
    return None
