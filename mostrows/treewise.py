"""Answers made two tables at a time, by a tree."""

from mostrows.houses import named_tables
from mostrows.questions import columns_of
from mostrows.tables import cut, joined
from mostrows.trees import pairs_of


def by_tree(question, house, tree):
    # A name or pair stands in a tree once, so what it makes is found by the name or pair itself.
    made = named_tables(question, house)
    sizes = []
    for pair in pairs_of(tree):
        made[pair] = joined(made[pair[0]], made[pair[1]])
        sizes.append(len(made[pair][1]))
    return (cut(made[tree], columns_of(question))[1], tuple(sizes))
