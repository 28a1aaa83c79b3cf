"""Shares of tables, weights of columns, and the price at which both meet."""

from mostrows.fractions import in_fewest_parts, lowest
from mostrows.greatest import greatest
from mostrows.questions import columns_of


def first_uncovered(question, shares):
    for column in columns_of(question):
        numbers = [number for pair, number in zip(question, shares[1]) if column in pair[1]]
        if sum(numbers) < shares[0]:
            return column
    return None


def is_cover(question, shares):
    return first_uncovered(question, shares) is None


def weights_fit(question, exponents, weights):
    numbers = dict(zip(columns_of(question), weights[1]))
    for pair, exponent in zip(question, exponents):
        if sum([numbers[column] for column in pair[1]]) > weights[0] * exponent:
            return False
    return True


def marked(every, columns):
    return [1 if column in columns else 0 for column in every]


def cover(question, exponents):
    every = columns_of(question)
    rows = [marked(every, columns) for name, columns in question]
    found = greatest(rows, exponents)
    parts = found[0]
    numbers = found[1]
    return (lowest(sum(numbers), parts), in_fewest_parts(parts, found[2]), in_fewest_parts(parts, numbers))


def is_price(price):
    return price[0] >= 0 and price[1] >= 1 and lowest(price[0], price[1]) == price


def are_parts(told, due):
    return told[0] >= 1 and len(told[1]) == due and all([number >= 0 for number in told[1]])


def comes_to(total, price, parts):
    return total * price[1] == price[0] * parts


def shares_show(question, exponents, price, shares):
    if not are_parts(shares, len(question)) or not is_cover(question, shares):
        return False
    total = sum([number * exponent for number, exponent in zip(shares[1], exponents)])
    return comes_to(total, price, shares[0])


def weights_show(question, exponents, price, weights):
    if not are_parts(weights, len(columns_of(question))) or not weights_fit(question, exponents, weights):
        return False
    return comes_to(sum(weights[1]), price, weights[0])


def cover_shows(question, exponents, told):
    price = told[0]
    if not is_price(price):
        return False
    return shares_show(question, exponents, price, told[1]) and weights_show(question, exponents, price, told[2])
