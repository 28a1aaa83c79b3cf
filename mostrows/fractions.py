"""Fractions: pairs (top, bottom) of whole numbers, bottom from 1 on."""


def common_divisor(one, other):
    while other != 0:
        rest = one % other
        one = other
        other = rest
    return one


def lowest(top, bottom):
    divisor = common_divisor(abs(top), bottom)
    return (top // divisor, bottom // divisor)


def is_less(one, other):
    return one[0] * other[1] < other[0] * one[1]


def in_fewest_parts(parts, numbers):
    divisor = parts
    for number in numbers:
        divisor = common_divisor(divisor, number)
    return (parts // divisor, tuple([number // divisor for number in numbers]))
