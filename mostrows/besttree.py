"""The tree by which the greatest table that may stand between is least."""

from mostrows.fractions import is_less
from mostrows.parts import all_parts
from mostrows.questions import names_of
from mostrows.worst import price_of, worst


def halves_of(names):
    # The first name stays in the first half: halves that change places join to the same.
    halves = []
    for other in all_parts(names[1:])[1:]:
        halves.append((tuple([name for name in names if name not in other]), other))
    return halves


def greater(one, other):
    return other if is_less(one, other) else one


def best_pair(best, names):
    found = None
    for one, other in halves_of(names):
        price = greater(best[one][1], best[other][1])
        if found is None or is_less(price, found[1]):
            found = ((best[one][0], best[other][0]), price)
    return found


def best_tree(question, exponents):
    every = tuple(names_of(question))
    best = {}
    for names in all_parts(every)[1:]:
        if len(names) == 1:
            # A table alone is no pair, so it makes no tree dearer.
            best[names] = (names[0], (0, 1))
        else:
            pair = best_pair(best, names)
            best[names] = (pair[0], greater(pair[1], price_of(question, exponents, names)))
    tree = best[every][0]
    return (tree, worst(question, exponents, tree)[0])
