"""Answers made along the ears, all tables thinned first."""

from mostrows.ears import ears_show
from mostrows.errors import NoEars
from mostrows.houses import named_tables
from mostrows.questions import columns_of
from mostrows.tables import cut, joined
from mostrows.thinning import thinned


def by_ears(question, house, some):
    if not ears_show(question, some):
        raise NoEars()
    tables = named_tables(question, thinned(question, house))
    whole = tables[some[-1][0]]
    sizes = []
    for name, holder in reversed(some[:-1]):
        whole = joined(whole, tables[name])
        sizes.append(len(whole[1]))
    return (cut(whole, columns_of(question))[1], tuple(sizes))
