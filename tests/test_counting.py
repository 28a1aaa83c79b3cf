import random
import unittest

import plain
from mostrows.counting import how_many, through
from mostrows.errors import NoEars
from mostrows.houses import answers, is_fit

CHAIN = (("t", ("a", "b")), ("u", ("c", "b")), ("v", ("c", "d")))
LINKS = (((0, 1), (0, 2), (3, 1), (4, 9)), ((5, 1), (6, 1), (7, 8), (8, 2)), ((0, 0), (5, 2), (6, 3), (6, 4)))


class SomeAnswers(unittest.TestCase):
    def test_a_chain(self):
        # Behind each of t's two rows with b 1: one by c 5, two by c 6.
        self.assertEqual(how_many(CHAIN, LINKS), 6)
        self.assertEqual(through(CHAIN, LINKS), ((3, 0, 3, 0), (2, 4, 0, 0), (0, 2, 2, 2)))

    def test_in_whatever_order_the_tables_stand(self):
        for order in ((0, 1, 2), (0, 2, 1), (1, 0, 2), (1, 2, 0), (2, 0, 1), (2, 1, 0)):
            question = tuple(CHAIN[at] for at in order)
            house = tuple(LINKS[at] for at in order)
            self.assertEqual(how_many(question, house), 6)
            self.assertEqual(through(question, house), plain.slow_through(question, house))

    def test_one_table(self):
        rows = ((0, 3), (0, 4), (2, 1))
        self.assertEqual(how_many(CHAIN[:1], (rows,)), 3)
        self.assertEqual(through(CHAIN[:1], (rows,)), ((1, 1, 1),))
        self.assertEqual(how_many(CHAIN[:1], ((),)), 0)
        self.assertEqual(through(CHAIN[:1], ((),)), ((),))

    def test_two_of_the_same_columns(self):
        question = (("t", ("a", "b")), ("u", ("b", "a")))
        house = (((0, 1), (0, 2), (3, 1)), ((1, 0), (1, 3), (2, 1)))
        self.assertEqual(how_many(question, house), 2)
        self.assertEqual(through(question, house), ((1, 0, 1), (1, 1, 0)))

    def test_a_triangle_held_by_a_wide_table(self):
        question = plain.ring_of_pairs("abc") + (("w", ("c", "a", "b")),)
        pairs = ((0, 1), (1, 0), (1, 1))
        house = (pairs, pairs, pairs, ((0, 0, 1), (0, 1, 1), (1, 0, 1), (1, 1, 1)))
        self.assertEqual(how_many(question, house), 3)
        self.assertEqual(through(question, house), plain.slow_through(question, house))


class NoAnswers(unittest.TestCase):
    def test_though_each_table_has_rows(self):
        house = (((0, 1), (0, 2)), ((5, 1), (6, 3)), ((6, 3), (7, 4)))
        self.assertEqual(how_many(CHAIN, house), 0)
        self.assertEqual(through(CHAIN, house), ((0, 0), (0, 0), (0, 0)))

    def test_a_table_without_rows(self):
        for at in range(3):
            house = LINKS[:at] + ((),) + LINKS[at + 1:]
            self.assertEqual(how_many(CHAIN, house), 0)
            self.assertEqual(through(CHAIN, house), tuple((0,) * len(rows) for rows in house))
            question, many = plain.column_apart(3)
            house = many[:at] + ((),) + many[at + 1:]
            self.assertEqual(how_many(question, house), 0)
            self.assertEqual(through(question, house), tuple((0,) * len(rows) for rows in house))


class Millions(unittest.TestCase):
    def test_without_a_column_in_common(self):
        for number in (4, 5, 6):
            question, house = plain.column_apart(number)
            self.assertIs(is_fit(house), False)
            self.assertEqual(how_many(question, house), 40 ** number)
            self.assertEqual(through(question, house), ((40 ** (number - 1),) * 40,) * number)

    def test_a_star(self):
        chance = random.Random(271)
        question, house = plain.made_star(chance, 5)
        degrees = [[sum(hub == one for hub, value in rows) for one in range(5)] for rows in house]
        by_hub = [a * b * c * d * e for a, b, c, d, e in zip(*degrees)]
        self.assertGreater(sum(by_hub), 50000)
        self.assertEqual(how_many(question, house), sum(by_hub))
        expected = tuple(tuple(by_hub[hub] // degrees[at][hub] for hub, value in rows) for at, rows in enumerate(house))
        self.assertEqual(through(question, house), expected)

    def test_through_all_rows_of_each_table(self):
        chance = random.Random(277)
        for turn in range(40):
            question = plain.made_eared(chance)
            house = tuple(plain.made_rows(chance, len(columns), 40, 4) for name, columns in question)
            total = how_many(question, house)
            told = through(question, house)
            self.assertIsInstance(told, tuple)
            self.assertEqual([len(numbers) for numbers in told], [len(rows) for rows in house])
            for numbers in told:
                self.assertIsInstance(numbers, tuple)
                self.assertEqual(sum(numbers), total)


class Many(unittest.TestCase):
    def test_against_the_answers(self):
        chance = random.Random(281)
        some = 0
        for turn in range(150):
            question = plain.made_eared(chance)
            house = plain.made_house(chance, question)
            self.assertEqual(how_many(question, house), len(answers(question, house)))
            self.assertEqual(through(question, house), plain.slow_through(question, house))
            self.assertEqual(through(question, house), through(question, house))
            some += how_many(question, house) > 1
        self.assertGreater(some, 60)


class NoEarsHere(unittest.TestCase):
    def test_where_there_is_a_ring(self):
        for question in plain.ALL_RINGS:
            for house in (plain.house_of_noughts(question), ((),) * len(question), ()):
                for asked in (how_many, through):
                    with self.assertRaises(NoEars):
                        asked(question, house)
