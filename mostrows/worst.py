"""The greatest table that may stand between, by a tree."""

from mostrows.covers import cover
from mostrows.fractions import is_less
from mostrows.questions import belonging, names_of, part
from mostrows.trees import pairs_of, tables_in


def price_of(question, exponents, tables):
    return cover(part(question, tables), belonging(question, exponents, tables))[0]


def pairs_to_price(tree):
    pairs = pairs_of(tree)
    return pairs if pairs else [tree]


def worst(question, exponents, tree):
    found = None
    for pair in pairs_to_price(tree):
        tables = belonging(question, names_of(question), tables_in(pair))
        price = price_of(question, exponents, tables)
        if found is None or is_less(found[0], price):
            found = (price, tables)
    return found
