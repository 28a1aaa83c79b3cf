"""Tables that agree two by two, and houses of such without an answer."""

from mostrows.errors import NoRing
from mostrows.full import all_rows
from mostrows.houses import tables_of
from mostrows.rings import is_ring, widest_sets
from mostrows.tables import common_columns, cut


def agree_both(one, other):
    common = common_columns(one, other)
    return cut(one, common) == cut(other, common)


def agree(question, house):
    tables = tables_of(question, house)
    for at, one in enumerate(tables):
        if not all([agree_both(one, other) for other in tables[:at]]):
            return False
    return True


def ring_rows(ring, sets, columns):
    # In the ring's sets the values come to a multiple of many, but in one set to 1 more. Each column stands in just
    # many sets, so that over all of them a row of the ring comes to a multiple: none stands in each. Two sets agree:
    # each has a column that the other lacks, with a value for whatever stands in those that both have.
    many = len(sets[0])
    rows = all_rows([many if column in ring else 1 for column in columns])
    own = tuple([column for column in ring if column in columns])
    if own not in sets:
        return rows
    due = 1 if own == sets[0] else 0
    return tuple([row for row in rows if sum(row) % many == due])


def agreeing(question, ring):
    if not is_ring(question, ring):
        raise NoRing()
    sets = widest_sets(question, ring)
    return tuple([ring_rows(ring, sets, columns) for name, columns in question])
