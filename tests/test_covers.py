import math
import random
import unittest

import plain
from mostrows.covers import cover, cover_shows, is_cover, weights_fit

ONE = (("t", ("a", "b")),)
RING = (("t", ("a", "b")), ("u", ("b", "c")), ("v", ("c", "a")))
WIDE = (("t", ("a", "b", "c")), ("u", ("b", "c", "d")), ("v", ("c", "d", "a")), ("w", ("d", "a", "b")))
APART = (("t", ("a", "b")), ("u", ("c",)), ("v", ("d", "e", "f")))


def ring_of(number):
    columns = "abcdef"[:number]
    return tuple((columns[at] * 2, (columns[at], columns[(at + 1) % number])) for at in range(number))


class IsCover(unittest.TestCase):
    def test_just_enough_and_one_short(self):
        self.assertIs(is_cover(ONE, (1, (1,))), True)
        self.assertIs(is_cover(ONE, (1, (0,))), False)
        self.assertIs(is_cover(ONE, (60, (60,))), True)
        self.assertIs(is_cover(ONE, (60, (59,))), False)
        self.assertIs(is_cover(RING, (2, (1, 1, 1))), True)
        self.assertIs(is_cover(RING, (3, (1, 1, 1))), False)
        for short in ((2, 2, 1), (2, 1, 2), (1, 2, 2)):
            self.assertIs(is_cover(RING, (4, short)), False)
            self.assertIs(is_cover(RING, (3, short)), True)
        self.assertIs(is_cover(RING, (4, (0, 4, 4))), True)
        self.assertIs(is_cover(RING, (4, (0, 4, 3))), False)
        self.assertIs(is_cover(RING, (4, (0, 3, 4))), False)

    def test_more_than_enough(self):
        self.assertIs(is_cover(RING, (1, (1, 1, 1))), True)
        self.assertIs(is_cover(RING, (1, (60, 60, 60))), True)

    def test_all_nought(self):
        self.assertIs(is_cover(RING, (1, (0, 0, 0))), False)
        self.assertIs(is_cover(ONE, (5, (0,))), False)

    def test_each_column_is_asked(self):
        self.assertIs(is_cover(APART, (2, (2, 2, 2))), True)
        for short in ((1, 2, 2), (2, 1, 2), (2, 2, 1), (0, 60, 60), (60, 0, 60), (60, 60, 0)):
            self.assertIs(is_cover(APART, (2, short)), False)

    def test_many(self):
        chance = random.Random(59)
        told = []
        for turn in range(400):
            question = plain.made_question(chance)
            parts = chance.randint(1, 8)
            shares = (parts, tuple(chance.randint(0, parts) for table in question))
            told.append(is_cover(question, shares))
            self.assertIs(told[-1], plain.slow_is_cover(question, shares))
        self.assertGreater(min(told.count(True), told.count(False)), 40)


class WeightsFit(unittest.TestCase):
    def test_just_few_enough_and_one_more(self):
        self.assertIs(weights_fit(ONE, (1,), (1, (1, 0))), True)
        self.assertIs(weights_fit(ONE, (1,), (1, (1, 1))), False)
        self.assertIs(weights_fit(ONE, (3,), (4, (5, 7))), True)
        self.assertIs(weights_fit(ONE, (3,), (4, (6, 7))), False)
        self.assertIs(weights_fit(RING, (1, 1, 1), (2, (1, 1, 1))), True)
        self.assertIs(weights_fit(RING, (1, 1, 1), (2, (1, 2, 1))), False)
        self.assertIs(weights_fit(RING, (2, 1, 1), (2, (2, 2, 0))), True)
        self.assertIs(weights_fit(RING, (2, 1, 1), (2, (2, 2, 1))), False)
        self.assertIs(weights_fit(RING, (1, 2, 1), (2, (2, 2, 0))), False)

    def test_all_nought(self):
        self.assertIs(weights_fit(RING, (0, 0, 0), (1, (0, 0, 0))), True)
        self.assertIs(weights_fit(RING, (9, 0, 9), (7, (0, 0, 0))), True)
        for weights in ((1, 0, 0), (0, 1, 0), (0, 0, 1)):
            self.assertIs(weights_fit(RING, (0, 0, 0), (60, weights)), False)

    def test_some_exponents_nought(self):
        self.assertIs(weights_fit(RING, (9, 0, 9), (1, (9, 0, 0))), True)
        self.assertIs(weights_fit(RING, (9, 0, 9), (1, (8, 1, 0))), False)
        self.assertIs(weights_fit(RING, (9, 0, 9), (1, (8, 0, 1))), False)

    def test_numbers_stand_in_the_questions_order_of_columns(self):
        question = (("t", ("c", "a")), ("u", ("b", "c")))
        self.assertIs(weights_fit(question, (5, 2), (1, (1, 4, 1))), True)
        self.assertIs(weights_fit(question, (5, 2), (1, (1, 1, 4))), False)
        self.assertIs(weights_fit(question, (5, 2), (1, (4, 1, 1))), False)

    def test_many(self):
        chance = random.Random(61)
        told = []
        for turn in range(400):
            question = plain.made_question(chance)
            exponents = plain.made_exponents(chance, question)
            columns = plain.slow_columns(question)
            weights = (chance.randint(1, 4), tuple(chance.randint(0, 3) for column in columns))
            told.append(weights_fit(question, exponents, weights))
            numbers = dict(zip(columns, weights[1]))
            self.assertIs(told[-1], all(sum(numbers[column] for column in table[1]) <= weights[0] * exponent
                                        for table, exponent in zip(question, exponents)))
        self.assertGreater(min(told.count(True), told.count(False)), 40)


class Cover(unittest.TestCase):
    def shown(self, question, exponents):
        told = cover(question, exponents)
        (top, bottom), (share_parts, shares), (weight_parts, weights) = told
        for one in (told, told[0], told[1], shares, told[2], weights):
            self.assertIsInstance(one, tuple)
        self.assertGreaterEqual(top, 0)
        self.assertGreaterEqual(bottom, 1)
        self.assertEqual(math.gcd(top, bottom), 1)
        self.assertGreaterEqual(min(share_parts, weight_parts), 1)
        self.assertGreaterEqual(min(shares + weights), 0)
        columns = plain.slow_columns(question)
        self.assertEqual((len(shares), len(weights)), (len(question), len(columns)))
        for column in columns:
            there = [number for table, number in zip(question, shares) if column in table[1]]
            self.assertGreaterEqual(sum(there), share_parts)
        for table, exponent in zip(question, exponents):
            here = [number for column, number in zip(columns, weights) if column in table[1]]
            self.assertLessEqual(sum(here), weight_parts * exponent)
        paid = sum(number * exponent for number, exponent in zip(shares, exponents))
        self.assertEqual(paid * bottom, top * share_parts)
        self.assertEqual(sum(weights) * bottom, top * weight_parts)
        self.assertIs(cover_shows(question, exponents, told), True)
        self.assertEqual(cover(question, exponents), told)
        return told[0]

    def test_one_table(self):
        for exponent in range(10):
            self.assertEqual(self.shown(ONE, (exponent,)), (exponent, 1))
            self.assertEqual(self.shown((("t", ("a", "b", "c", "d")),), (exponent,)), (exponent, 1))

    def test_rings(self):
        for number in range(3, 7):
            self.assertEqual(self.shown(ring_of(number), (1,) * number), plain_fraction(number, 2))
            self.assertEqual(self.shown(ring_of(number), (9,) * number), plain_fraction(9 * number, 2))

    def test_a_ring_of_unlike_exponents(self):
        self.assertEqual(self.shown(RING, (1, 2, 2)), (5, 2))
        self.assertEqual(self.shown(RING, (1, 2, 9)), (3, 1))
        self.assertEqual(self.shown(RING, (3, 4, 6)), (13, 2))
        self.assertEqual(self.shown(RING, (0, 5, 7)), (5, 1))
        self.assertEqual(self.shown(RING, (0, 0, 9)), (0, 1))

    def test_all_sets_but_one(self):
        self.assertEqual(self.shown(WIDE, (1, 1, 1, 1)), (4, 3))
        self.assertEqual(self.shown(WIDE, (9, 9, 9, 9)), (12, 1))
        self.assertEqual(self.shown(WIDE, (1, 1, 1, 2)), (3, 2))
        self.assertEqual(self.shown(WIDE, (3, 3, 3, 4)), (13, 3))

    def test_tables_that_do_not_hang_together(self):
        self.assertEqual(self.shown(APART, (1, 1, 1)), (3, 1))
        self.assertEqual(self.shown(APART, (2, 0, 7)), (9, 1))
        self.assertEqual(self.shown(RING + (("w", ("d",)),), (1, 1, 1, 5)), (13, 2))
        self.assertEqual(self.shown(RING + (("w", ("d", "e")), ("x", ("e", "f")), ("y", ("f", "d"))), (1,) * 6), (3, 1))

    def test_tables_alike_and_tables_within_others(self):
        self.assertEqual(self.shown((("t", ("a", "b")), ("u", ("b", "a"))), (4, 3)), (3, 1))
        self.assertEqual(self.shown((("t", ("a", "b")), ("u", ("b",)), ("v", ("a",))), (9, 2, 3)), (5, 1))
        self.assertEqual(self.shown((("t", ("a", "b")), ("u", ("b",)), ("v", ("a",))), (4, 2, 3)), (4, 1))
        self.assertEqual(self.shown(tuple((name, ("x",)) for name in "uvwxyz"), (9, 8, 7, 6, 5, 4)), (4, 1))

    def test_a_star(self):
        star = tuple((name, ("hub", name)) for name in "abcde")
        self.assertEqual(self.shown(star, (1, 1, 1, 1, 1)), (5, 1))
        self.assertEqual(self.shown(star, (1, 2, 3, 4, 9)), (19, 1))

    def test_all_nought(self):
        for question in (ONE, RING, WIDE, APART, ring_of(6)):
            self.assertEqual(self.shown(question, (0,) * len(question)), (0, 1))

    def test_many_and_so_many_times_the_exponents(self):
        chance = random.Random(67)
        sizes = []
        for turn in range(400):
            question = plain.made_question(chance)
            sizes.append(len(question))
            exponents = plain.made_exponents(chance, question)
            top, bottom = self.shown(question, exponents)
            for times in (0, 2, 3):
                more = cover(question, tuple(times * exponent for exponent in exponents))
                self.assertEqual(more[0], plain_fraction(times * top, bottom))
        self.assertEqual(set(sizes), {1, 2, 3, 4, 5, 6})

    def test_many_rings_with_other_tables(self):
        chance = random.Random(71)
        for turn in range(200):
            question = ring_of(chance.randint(3, 5)) + (("more", tuple(chance.sample("abcdef", 3))),)
            self.shown(question, plain.made_exponents(chance, question))

    def test_greater_exponents_than_told(self):
        self.assertEqual(self.shown(RING, (1000, 1001, 1002)), (3003, 2))


class CoverShows(unittest.TestCase):
    # Of the ring with exponents 1, 2 and 2: price 5/2, all shares 1 of 2, weights 1, 1 and 3 of 2.
    EXPONENTS = (1, 2, 2)
    PRICE = (5, 2)
    SHARES = (2, (1, 1, 1))
    WEIGHTS = (2, (1, 1, 3))

    def looked_at(self, price=PRICE, shares=SHARES, weights=WEIGHTS):
        return cover_shows(RING, self.EXPONENTS, (price, shares, weights))

    def test_shown(self):
        self.assertIs(self.looked_at(), True)
        self.assertIs(self.looked_at(shares=(4, (2, 2, 2))), True)
        self.assertIs(self.looked_at(weights=(6, (3, 3, 9))), True)
        self.assertIs(self.looked_at(shares=(60, (30, 30, 30)), weights=(200, (100, 100, 300))), True)

    def test_price(self):
        for price in ((10, 4), (5, 1), (3, 2), (7, 3), (-5, 2), (5, -2), (-5, -2), (-10, -4), (5, 0), (0, 0), (0, 1),
                      (0, 2), (1, 0)):
            with self.subTest(price=price):
                self.assertIs(self.looked_at(price=price), False)

    def test_parts_below_one(self):
        for parts in (0, -1, -2):
            self.assertIs(self.looked_at(shares=(parts, (1, 1, 1))), False)
            self.assertIs(self.looked_at(weights=(parts, (1, 1, 3))), False)
        self.assertIs(self.looked_at(shares=(0, (0, 0, 0))), False)
        self.assertIs(self.looked_at(weights=(0, (0, 0, 0))), False)
        self.assertIs(self.looked_at(shares=(-2, (-1, -1, -1))), False)
        self.assertIs(self.looked_at(weights=(-2, (-1, -1, -3))), False)

    def test_nothing_at_all_shows_nothing(self):
        zeros = (0, (0, 0, 0))
        one = (1, (0, 0, 0))
        for shares, weights in ((zeros, one), (zeros, zeros), (one, one), ((1, (1, 1, 0)), zeros)):
            self.assertIs(cover_shows(RING, (0, 0, 0), ((0, 1), shares, weights)), False)
        self.assertIs(cover_shows(RING, (0, 0, 0), ((0, 1), (1, (1, 1, 0)), one)), True)
        self.assertIs(cover_shows(RING, (0, 0, 0), ((0, 3), (1, (1, 1, 0)), one)), False)

    def test_numbers_below_nought(self):
        # Each column is covered, and the sum is right.
        self.assertIs(cover_shows(RING, (0, 1, 1), ((1, 1), (1, (1, 1, 0)), (1, (0, 0, 1)))), True)
        self.assertIs(cover_shows(RING, (0, 1, 1), ((1, 1), (1, (2, -1, 2)), (1, (0, 0, 1)))), False)
        self.assertIs(cover_shows(RING, (2, 0, 2), ((2, 1), (1, (1, 1, 0)), (1, (2, 0, 0)))), True)
        self.assertIs(cover_shows(RING, (2, 0, 2), ((2, 1), (1, (-1, 2, 2)), (1, (2, 0, 0)))), False)
        # The table has few enough, and the sum is right.
        self.assertIs(cover_shows(ONE, (1,), ((1, 1), (1, (1,)), (1, (2, -1)))), False)
        self.assertIs(cover_shows(ONE, (1,), ((1, 1), (1, (1,)), (1, (1, 0)))), True)

    def test_as_many_numbers_as_due(self):
        for shares in ((1, 1), (1, 1, 1, 0), (1, 1, 1, 1), ()):
            self.assertIs(self.looked_at(shares=(2, shares)), False)
        for weights in ((1, 1), (1, 4), (5,), (1, 1, 3, 0), (1, 1, 1, 2), ()):
            self.assertIs(self.looked_at(weights=(2, weights)), False)
        self.assertIs(cover_shows(ONE, (0,), ((0, 1), (1, (1,)), (1, ()))), False)
        self.assertIs(cover_shows(ONE, (0,), ((0, 1), (1, (1, 0)), (1, (0, 0)))), False)
        self.assertIs(cover_shows(ONE, (0,), ((0, 1), (1, (1,)), (1, (0, 0)))), True)

    def test_no_cover(self):
        # Both come to the price, but one column is short.
        for shares in ((2, (3, 1, 0)), (2, (1, 0, 2)), (2, (1, 2, 0)), (4, (0, 3, 2)), (2, (5, 0, 0))):
            with self.subTest(shares=shares):
                self.assertIs(self.looked_at(shares=shares), False)

    def test_weights_that_do_not_fit(self):
        # All come to the price, but one table has too many.
        for weights in ((2, 1, 2), (1, 0, 4), (0, 1, 4), (5, 0, 0)):
            with self.subTest(weights=weights):
                self.assertIs(self.looked_at(weights=(2, weights)), False)

    def test_another_sum(self):
        for shares in ((2, (2, 1, 1)), (2, (1, 1, 2)), (2, (2, 2, 2)), (1, (1, 1, 1)), (1, (1, 1, 0)), (1, (0, 1, 1))):
            self.assertIs(self.looked_at(shares=shares), False)
        for weights in ((2, (1, 1, 2)), (2, (0, 0, 0)), (4, (1, 1, 3)), (2, (1, 0, 3)), (1, (0, 0, 2))):
            self.assertIs(self.looked_at(weights=weights), False)

    def test_a_cover_and_weights_that_do_not_meet(self):
        self.assertIs(self.looked_at((3, 1), (1, (1, 1, 0)), (2, (1, 1, 3))), False)
        self.assertIs(self.looked_at((2, 1), (2, (1, 1, 1)), (1, (0, 0, 2))), False)
        self.assertIs(self.looked_at((3, 1), (1, (1, 1, 0)), (1, (0, 1, 2))), False)

    def test_exponents_are_looked_at(self):
        told = cover(RING, (1, 2, 2))
        for exponents in ((1, 1, 2), (2, 2, 2), (1, 2, 3), (0, 0, 0), (2, 1, 2)):
            self.assertIs(cover_shows(RING, exponents, told), False)

    def test_many_with_one_number_otherwise(self):
        chance = random.Random(73)
        for turn in range(100):
            question = plain.made_question(chance)
            exponents = tuple(max(1, exponent) for exponent in plain.made_exponents(chance, question))
            price, shares, weights = cover(question, exponents)
            twice = [(2 * parts, tuple(2 * number for number in numbers)) for parts, numbers in (shares, weights)]
            self.assertIs(cover_shows(question, exponents, (price, twice[0], twice[1])), True)
            for step in (-1, 1):
                at = chance.randrange(len(shares[1]))
                other = shares[1][:at] + (shares[1][at] + step,) + shares[1][at + 1:]
                self.assertIs(cover_shows(question, exponents, (price, (shares[0], other), weights)), False)
                at = chance.randrange(len(weights[1]))
                other = weights[1][:at] + (weights[1][at] + step,) + weights[1][at + 1:]
                self.assertIs(cover_shows(question, exponents, (price, shares, (weights[0], other))), False)
                self.assertIs(cover_shows(question, exponents, ((price[0] + step, price[1]), shares, weights)), False)


def plain_fraction(top, bottom):
    divisor = math.gcd(top, bottom)
    return (top // divisor, bottom // divisor)
