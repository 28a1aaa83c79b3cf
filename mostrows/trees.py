"""Trees: in which pairs tables are joined."""

from mostrows.questions import names_of

# Walked with a list of what still waits, not by calls within calls: a tree may be deeper than these may go.


def tables_in(tree):
    names = []
    waiting = [tree]
    while waiting:
        one = waiting.pop()
        if isinstance(one, str):
            names.append(one)
        else:
            waiting.extend([one[1], one[0]])
    return tuple(names)


def is_tree(question, tree):
    return sorted(tables_in(tree)) == sorted(names_of(question))


def pairs_of(tree):
    # Found from the last one on: a pair ahead of those in its second tree, these ahead of those in its first.
    found = []
    waiting = [tree]
    while waiting:
        one = waiting.pop()
        if not isinstance(one, str):
            found.append(one)
            waiting.extend([one[0], one[1]])
    return list(reversed(found))
