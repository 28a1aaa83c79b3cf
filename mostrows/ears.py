"""Ears: tables taken off one by one, each held by another that is left."""

from mostrows.errors import NoEars
from mostrows.questions import columns_of
from mostrows.rings import ring_of


def without(question, name):
    return tuple([pair for pair in question if pair[0] != name])


def has_all(columns, some):
    return all([column in columns for column in some])


def holders_of(left, name, columns):
    others = without(left, name)
    if len(others) == 0:
        return [None]
    shared = [column for column in columns if column in columns_of(others)]
    return [other for other, held in others if has_all(held, shared)]


def ears_in(left):
    found = []
    for name, columns in left:
        found.extend([(name, holder) for holder in holders_of(left, name, columns)])
    return found


def taken_off(question):
    # Whichever ear goes first, the others can all go or can't: what it has in common with them its holder has, too.
    left = question
    taken = []
    found = ears_in(left)
    while found:
        taken.append(found[0])
        left = without(left, found[0][0])
        found = ears_in(left)
    return taken


def ears(question):
    taken = taken_off(question)
    if len(taken) == len(question):
        return ("ears", taken)
    return ("ring", ring_of(question))


def ears_show(question, some):
    left = question
    for name, holder in some:
        if (name, holder) not in ears_in(left):
            return False
        left = without(left, name)
    return len(left) == 0


def list_of_ears(question):
    told = ears(question)
    if told[0] == "ring":
        raise NoEars()
    return told[1]
