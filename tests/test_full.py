import itertools
import random
import unittest

import plain
from mostrows.bounds import most
from mostrows.covers import cover
from mostrows.errors import RowsError, TooMany
from mostrows.full import full_house
from mostrows.houses import answers, is_fit, look_house

ONE = (("t", ("a",)),)
PAIR = (("t", ("a", "b")),)
RING = (("t", ("a", "b")), ("u", ("b", "c")), ("v", ("c", "a")))
APART = (("t", ("a",)), ("u", ("b",)))


def slow_full(question, base, weights):
    counts = {column: base ** number for column, number in zip(plain.slow_columns(question), weights[1])}
    return tuple(tuple(itertools.product(*(range(counts[column]) for column in columns))) for name, columns in question)


class FullHouse(unittest.TestCase):
    def test_by_hand(self):
        self.assertEqual(full_house(ONE, 2, (1, (2,))), (((0,), (1,), (2,), (3,)),))
        self.assertEqual(full_house(PAIR, 3, (1, (1, 0))), (((0, 0), (1, 0), (2, 0)),))
        self.assertEqual(full_house(PAIR, 2, (1, (0, 1))), (((0, 0), (0, 1)),))
        self.assertEqual(full_house(PAIR, 2, (1, (1, 1))), (((0, 0), (0, 1), (1, 0), (1, 1)),))

    def test_numbers_stand_in_the_questions_order_of_columns(self):
        question = (("t", ("c", "a")), ("u", ("b", "c")))
        ca = tuple((c, a) for c in range(2) for a in range(1))
        bc = tuple((b, c) for b in range(4) for c in range(2))
        self.assertEqual(full_house(question, 2, (1, (1, 0, 2))), (ca, bc))

    def test_base_one(self):
        for numbers in ((0, 0, 0), (12, 12, 12), (3, 0, 12)):
            self.assertEqual(full_house(RING, 1, (1, numbers)), (((0, 0),),) * 3)

    def test_base_four(self):
        self.assertEqual(full_house(ONE, 4, (1, (1,))), (((0,), (1,), (2,), (3,)),))
        self.assertEqual(full_house(ONE, 4, (2, (4,))), (tuple((value,) for value in range(256)),))
        self.assertEqual(full_house(PAIR, 4, (1, (2, 1))), slow_full(PAIR, 4, (1, (2, 1))))

    def test_weights_all_nought(self):
        for base in (1, 2, 3, 4):
            self.assertEqual(full_house(RING, base, (1, (0, 0, 0))), (((0, 0),),) * 3)

    def test_parts_are_of_no_matter(self):
        for parts in (1, 2, 7, 60, 1000):
            self.assertEqual(full_house(RING, 2, (parts, (1, 0, 1))), slow_full(RING, 2, (1, (1, 0, 1))))

    def test_many(self):
        chance = random.Random(103)
        told = 0
        for turn in range(300):
            question = plain.made_question(chance)
            columns = plain.slow_columns(question)
            weights = (chance.randint(1, 3), tuple(chance.choice((0, 0, 0, 1, 2)) for column in columns))
            base = chance.randint(1, 4)
            wanted = slow_full(question, base, weights)
            if is_fit(wanted) and max(len(rows) for rows in wanted) <= 1000:
                told += 1
                self.assertEqual(full_house(question, base, weights), wanted)
                self.assertIs(look_house(question, full_house(question, base, weights)), True)
            else:
                self.assertRaises(TooMany, full_house, question, base, weights)
        self.assertTrue(100 < told < 290)


class Refused(unittest.TestCase):
    def refused(self, question, base, numbers):
        for parts in (1, 9):
            with self.assertRaises(TooMany) as caught:
                full_house(question, base, (parts, numbers))
            self.assertEqual(caught.exception.most, 3000)
            self.assertIsInstance(caught.exception, RowsError)

    def let_by(self, question, base, numbers):
        told = full_house(question, base, (1, numbers))
        self.assertEqual(told, slow_full(question, base, (1, numbers)))
        self.assertIs(look_house(question, told), True)
        self.assertIs(is_fit(told), True)

    def test_values_of_a_column(self):
        self.let_by(ONE, 2, (9,))
        self.refused(ONE, 2, (10,))
        self.let_by(ONE, 4, (4,))
        self.refused(ONE, 4, (5,))
        self.refused(ONE, 4, (12,))
        self.let_by(ONE, 3, (6,))
        self.refused(ONE, 3, (7,))

    def test_just_a_thousand(self):
        self.let_by(ONE, 10, (3,))
        self.let_by(ONE, 1000, (1,))
        self.refused(ONE, 1001, (1,))
        self.let_by(PAIR, 10, (1, 2))
        self.let_by((("t", ("a", "b", "c")),), 10, (1, 1, 1))
        self.refused((("t", ("a", "b", "c")),), 11, (1, 1, 1))

    def test_rows_of_a_table(self):
        self.let_by(PAIR, 2, (4, 5))
        self.refused(PAIR, 2, (5, 5))
        self.let_by(PAIR, 31, (1, 1))
        self.refused(PAIR, 32, (1, 1))
        self.refused((("t", ("a", "b", "c", "d")),), 4, (12, 12, 12, 12))

    def test_not_fit(self):
        # The product is a power of the base: the nearest ones to 3000 are 2916 and 3025.
        self.let_by(APART, 54, (1, 1))
        self.refused(APART, 55, (1, 1))
        self.let_by(APART, 2, (6, 5))
        self.refused(APART, 2, (6, 6))
        self.let_by(APART, 3, (6, 1))
        self.refused(APART, 3, (6, 2))
        self.let_by(RING, 3, (1, 1, 1))
        self.let_by(RING, 2, (2, 2, 1))
        self.refused(RING, 2, (2, 2, 2))

    def test_the_last_table_is_too_great(self):
        self.refused(APART, 4, (0, 5))
        self.refused(APART, 4, (5, 0))

    def test_great_weights_of_a_cover(self):
        question = (("t", ("a", "b", "c", "d")), ("u", ("e", "f")))
        weights = cover(question, (9, 9))[2]
        self.refused(question, 4, weights[1])
        self.assertEqual(full_house(question, 1, weights), (((0, 0, 0, 0),), ((0, 0),)))


class ByTheWeightsOfACover(unittest.TestCase):
    def test_tables_no_greater_than_told_and_so_many_answers(self):
        chance = random.Random(107)
        told = 0
        for turn in range(400):
            question = plain.made_question(chance)
            exponents = tuple(chance.choice((0, 1, 1, 2)) for table in question)
            base = chance.randint(1, 4)
            (top, bottom), shares, weights = cover(question, exponents)
            try:
                house = full_house(question, base, weights)
            except TooMany:
                continue
            told += 1
            x = base ** weights[0]
            for rows, exponent in zip(house, exponents):
                self.assertLessEqual(len(rows), x ** exponent)
            number = len(answers(question, house))
            self.assertEqual(number ** bottom, x ** top)
            # The tables are no greater than told, so the most is no more; and it is never fewer than the answers.
            self.assertEqual(most(question, house, shares), number)
            self.assertEqual(number ** shares[0], x ** sum(a * b for a, b in zip(shares[1], exponents)))
        self.assertGreater(told, 150)

    def test_the_most_is_met(self):
        price, shares, weights = cover(RING, (1, 1, 1))
        for base in (1, 2, 3):
            house = full_house(RING, base, weights)
            self.assertEqual([len(rows) for rows in house], [base ** weights[0]] * 3)
            self.assertEqual(most(RING, house, shares), len(answers(RING, house)))

    def test_asked_again_told_the_same(self):
        self.assertEqual(full_house(RING, 3, (2, (1, 1, 1))), full_house(RING, 3, (2, (1, 1, 1))))
