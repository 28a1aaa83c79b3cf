"""Houses thinned to the rows that stand in an answer."""

from mostrows.ears import list_of_ears
from mostrows.houses import named_tables
from mostrows.questions import names_of
from mostrows.tables import thinned_by


def thinned(question, house):
    held = list_of_ears(question)[:-1]
    tables = named_tables(question, house)
    # Towards the last one, each holder loses what an ear lacks; back again, each ear what its holder lost by others.
    for name, holder in held:
        tables[holder] = thinned_by(tables[holder], tables[name])
    for name, holder in reversed(held):
        tables[name] = thinned_by(tables[name], tables[holder])
    return tuple([tables[name][1] for name in names_of(question)])
