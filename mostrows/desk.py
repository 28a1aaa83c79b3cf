"""The desk: a text with a question and a house, and a row that asks something of them."""

from mostrows.columnwise import by_columns
from mostrows.counting import how_many
from mostrows.covers import cover
from mostrows.ears import ears
from mostrows.errors import BadHouse, NoRow, NoText
from mostrows.houses import answers, is_fit
from mostrows.places import answer_at, place_of
from mostrows.questions import columns_of
from mostrows.texts import VALUE_FIGURES, number_in, read, read_tree, show_row
from mostrows.trees import is_tree
from mostrows.treewise import by_tree
from mostrows.worst import worst

EXPONENT_FIGURES = 1
PLACE_FIGURES = 12


def look_alone(words):
    if words:
        raise NoRow()


def look_fit(house):
    if not is_fit(house):
        raise BadHouse("")


def numbers_in(words, due, longest):
    numbers = tuple([number_in(word, longest) for word in words])
    if len(numbers) != due or None in numbers:
        raise NoRow()
    return numbers


def order_in(question, words):
    if sorted(words) != sorted(columns_of(question)):
        raise NoRow()
    return tuple(words)


def tree_in(question, words):
    try:
        tree = read_tree(" ".join(words))
    except NoText:
        raise NoRow() from None
    if not is_tree(question, tree):
        raise NoRow()
    return tree


def show_price(price):
    return "price " + str(price[0]) + "/" + str(price[1])


def tell_answers(question, house, words):
    look_alone(words)
    look_fit(house)
    told = answers(question, house)
    return "\n".join([show_row(row) for row in told]) if told else "none"


def tell_columns(question, house, words):
    order = order_in(question, words)
    look_fit(house)
    told = by_columns(question, house, order)
    return show_row(("levels",) + told[1] + ("looks", told[2]))


def tell_tree(question, house, words):
    tree = tree_in(question, words)
    look_fit(house)
    return show_row(("sizes",) + by_tree(question, house, tree)[1])


def tell_cover(question, house, words):
    return show_price(cover(question, numbers_in(words, len(question), EXPONENT_FIGURES))[0])


def tell_worst(question, house, words):
    # The exponents stand last, one for each table; all words ahead of them are the tree's.
    tree = tree_in(question, words[:-len(question)])
    exponents = numbers_in(words[-len(question):], len(question), EXPONENT_FIGURES)
    told = worst(question, exponents, tree)
    return " ".join((show_price(told[0]),) + told[1])


def tell_ears(question, house, words):
    look_alone(words)
    return "yes" if ears(question)[0] == "ears" else "no"


def tell_count(question, house, words):
    look_alone(words)
    return str(how_many(question, house))


def tell_at(question, house, words):
    place = numbers_in(words, 1, PLACE_FIGURES)[0]
    return show_row(answer_at(question, house, place))


def tell_place(question, house, words):
    row = numbers_in(words, len(columns_of(question)), VALUE_FIGURES)
    return str(place_of(question, house, row))


ASKED = {
    "answers": tell_answers,
    "columns": tell_columns,
    "tree": tell_tree,
    "cover": tell_cover,
    "worst": tell_worst,
    "ears": tell_ears,
    "count": tell_count,
    "at": tell_at,
    "place": tell_place,
}


def answered(text, row):
    told = read(text)
    words = row.split(" ")
    if words[0] not in ASKED:
        raise NoRow()
    tell = ASKED[words[0]]
    return tell(told[0], told[1], words[1:])
