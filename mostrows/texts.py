"""Questions with their houses, and trees, written and read."""

from mostrows.errors import NoText
from mostrows.names import is_name
from mostrows.questions import MOST_TABLES, is_right_behind
from mostrows.tables import is_row

FIGURES = "0123456789"
VALUE_FIGURES = 3


def number_in(word, longest):
    # None where the word is no number. One too long isn't read at all: int itself goes no further than some thousands.
    if not 1 <= len(word) <= longest or not all([sign in FIGURES for sign in word]):
        return None
    if word[0] == "0" and len(word) > 1:
        return None
    return int(word)


def show_row(values):
    return " ".join([str(value) for value in values])


def show(question, house):
    shown = []
    for pair, rows in zip(question, house):
        shown.append(" ".join(("table", pair[0]) + pair[1]))
        shown.extend([show_row(row) for row in rows])
    return "\n".join(shown)


def pair_in(ahead, words):
    if len(ahead) == MOST_TABLES or len(words) < 2:
        return None
    columns = tuple(words[2:])
    return (words[1], columns) if is_right_behind(ahead, words[1], columns) else None


def row_in(question, house, words):
    if len(question) == 0:
        return None
    row = tuple([number_in(word, VALUE_FIGURES) for word in words])
    if not is_row(len(question[-1][1]), row):
        return None
    rows = house[-1]
    return row if len(rows) == 0 or rows[-1] < row else None


def read(text):
    question = ()
    house = []
    for at, line in enumerate(text.split("\n")):
        words = line.split(" ")
        is_table = words[0] == "table"
        found = pair_in(question, words) if is_table else row_in(question, house, words)
        if found is None:
            raise NoText(at)
        if is_table:
            question = question + (found,)
            house.append([])
        else:
            house[-1].append(found)
    return (question, tuple([tuple(rows) for rows in house]))


def show_tree(tree):
    # What waits is written as it stands, or taken apart: a tree may be deeper than calls within calls may go.
    shown = []
    waiting = [tree]
    while waiting:
        one = waiting.pop()
        if isinstance(one, str):
            shown.append(one)
        else:
            waiting.extend([")", one[1], " ", one[0], "("])
    return "".join(shown)


def close_pair(waiting):
    second = waiting.pop()
    if len(waiting) < 2 or waiting[-1] is None or waiting[-2] is not None:
        raise NoText(0)
    first = waiting.pop()
    waiting.pop()
    waiting.append((first, second))


def read_tree(text):
    # Between two names that follow one another there is just one blank, so each word has one name; None waits for
    # each bracket that isn't closed yet.
    waiting = []
    for word in text.split(" "):
        behind = word.lstrip("(")
        name = behind.rstrip(")")
        if not is_name(name):
            raise NoText(0)
        waiting.extend([None] * (len(word) - len(behind)))
        waiting.append(name)
        for step in range(len(behind) - len(name)):
            close_pair(waiting)
    if len(waiting) > 1:
        raise NoText(0)
    return waiting[0]
