"""Questions: tables with named columns."""

from mostrows.errors import BadQuestion
from mostrows.names import are_unlike_names, is_name

MOST_TABLES = 6
MOST_COLUMNS = 6
WIDEST = 4


def names_of(question):
    return [name for name, columns in question]


def columns_of(question):
    found = []
    for name, columns in question:
        found.extend([column for column in columns if column not in found])
    return tuple(found)


def is_right_alone(name, columns):
    return is_name(name) and 1 <= len(columns) <= WIDEST and are_unlike_names(columns)


def is_right_behind(ahead, name, columns):
    if not is_right_alone(name, columns) or name in names_of(ahead):
        return False
    return len(columns_of(ahead + ((name, columns),))) <= MOST_COLUMNS


def look(question):
    if len(question) == 0:
        raise BadQuestion(-1)
    for at, pair in enumerate(question):
        if at == MOST_TABLES or not is_right_behind(question[:at], pair[0], pair[1]):
            raise BadQuestion(at)
    return True


def having(question, column):
    return [name for name, columns in question if column in columns]


def part(question, tables):
    return tuple([pair for pair in question if pair[0] in tables])


def belonging(question, things, tables):
    return tuple([thing for pair, thing in zip(question, things) if pair[0] in tables])
