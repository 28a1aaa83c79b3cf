import itertools
import random
import unittest

import plain
from mostrows.bounds import looks_fit, most, root
from mostrows.columnwise import by_columns
from mostrows.covers import cover
from mostrows.errors import NoCover, RowsError
from mostrows.houses import answers

RING = (("t", ("a", "b")), ("u", ("b", "c")), ("v", ("c", "a")))


def rows_of(number):
    return tuple((value // 1000, value % 1000) for value in range(number))


def ring_house(one, two, three):
    return (rows_of(one), rows_of(two), rows_of(three))


def product_of(house, shares):
    product = 1
    for rows, number in zip(house, shares[1]):
        product *= len(rows) ** number
    return product


class Root(unittest.TestCase):
    def test_nought_and_one(self):
        for power in (1, 2, 3, 60, 1000, 10 ** 30):
            self.assertEqual(root(0, power), 0)
            self.assertEqual(root(1, power), 1)

    def test_small_numbers(self):
        for power in range(1, 12):
            for number in range(300):
                told = root(number, power)
                self.assertTrue(told ** power <= number < (told + 1) ** power, (number, power))

    def test_powers_and_the_numbers_beside_them(self):
        for base in (2, 3, 4, 7, 10, 16, 99, 1000, 12345):
            for power in (2, 3, 4, 5, 9, 30, 60):
                number = base ** power
                self.assertEqual(root(number - 1, power), base - 1)
                self.assertEqual(root(number, power), base)
                self.assertEqual(root(number + 1, power), base)

    def test_the_first_power(self):
        for number in (2, 3, 4, 1000, 10 ** 399 + 7, 10 ** 400 - 1):
            self.assertEqual(root(number, 1), number)

    def test_several_hundred_figures(self):
        for base, power in ((10 ** 199 + 3, 2), (10 ** 133 - 7, 3), (3 ** 160, 5), (777777, 60), (2, 1328), (5, 570)):
            number = base ** power
            self.assertEqual(root(number - 1, power), base - 1)
            self.assertEqual(root(number, power), base)
            self.assertEqual(root(number + 1, power), base)
        chance = random.Random(79)
        for turn in range(60):
            number = chance.randint(10 ** 300, 10 ** 400 - 1)
            power = chance.choice((2, 3, 7, 60, 200, 500, 1000))
            told = root(number, power)
            self.assertTrue(told ** power <= number < (told + 1) ** power)

    def test_great_powers(self):
        for bits in (1, 2, 10, 100, 1328):
            self.assertEqual(root(2 ** bits, bits), 2)
            self.assertEqual(root(2 ** bits - 1, bits), 1)
            self.assertEqual(root(2 ** bits, bits + 1), 1)
        self.assertEqual(root(10 ** 400 - 1, 10 ** 9), 1)
        self.assertEqual(root(7, 10 ** 40), 1)


class Most(unittest.TestCase):
    def refused(self, question, house, shares, column):
        for ask in (lambda: most(question, house, shares), lambda: looks_fit(question, house, shares, 0)):
            with self.assertRaises(NoCover) as caught:
                ask()
            self.assertEqual(caught.exception.column, column)
            self.assertIsInstance(caught.exception, RowsError)

    def test_one_table(self):
        question = (("t", ("a", "b")),)
        self.assertEqual(most(question, (rows_of(7),), (1, (1,))), 7)
        self.assertEqual(most(question, (rows_of(7),), (1, (2,))), 49)
        self.assertEqual(most(question, (rows_of(7),), (60, (60,))), 7)
        self.assertEqual(most(question, (rows_of(7),), (2, (3,))), 18)

    def test_a_ring(self):
        self.assertEqual(most(RING, ring_house(4, 4, 4), (2, (1, 1, 1))), 8)
        self.assertEqual(most(RING, ring_house(4, 4, 5), (2, (1, 1, 1))), 8)
        self.assertEqual(most(RING, ring_house(3, 3, 9), (2, (1, 1, 1))), 9)
        self.assertEqual(most(RING, ring_house(3, 3, 9), (1, (1, 1, 0))), 9)
        self.assertEqual(most(RING, ring_house(3, 4, 5), (2, (1, 1, 1))), 7)
        self.assertEqual(most(RING, ring_house(3, 4, 5), (1, (1, 0, 1))), 15)
        self.assertEqual(most(RING, ring_house(3, 4, 5), (1, (1, 1, 1))), 60)

    def test_parts_and_numbers_so_many_times(self):
        for times in (1, 2, 5, 30):
            self.assertEqual(most(RING, ring_house(3, 4, 5), (2 * times, (times,) * 3)), 7)

    def test_any_house(self):
        self.assertEqual(most(RING, ring_house(400, 400, 400), (2, (1, 1, 1))), 8000)
        self.assertEqual(most(RING, ring_house(3000, 3000, 3000), (60, (60, 60, 60))), 3000 ** 3)

    def test_a_table_without_rows(self):
        self.assertEqual(most(RING, ring_house(0, 4, 5), (2, (1, 1, 1))), 0)
        self.assertEqual(most(RING, ring_house(0, 4, 5), (1, (0, 1, 1))), 20)
        self.assertEqual(most(RING, ring_house(0, 4, 5), (2, (0, 2, 2))), 20)
        self.assertEqual(most(RING, ring_house(0, 0, 0), (1, (0, 1, 1))), 0)
        self.assertEqual(most(RING, ring_house(0, 0, 5), (1, (0, 1, 1))), 0)

    def test_no_cover(self):
        house = ring_house(3, 4, 5)
        self.refused(RING, house, (1, (0, 0, 0)), "a")
        self.refused(RING, house, (2, (1, 1, 0)), "a")
        self.refused(RING, house, (2, (1, 0, 1)), "b")
        self.refused(RING, house, (2, (0, 1, 1)), "a")
        self.refused(RING, house, (2, (2, 0, 1)), "c")
        self.refused(RING, house, (60, (60, 20, 39)), "c")
        self.assertEqual(most(RING, house, (60, (60, 20, 40))), root(3 ** 60 * 4 ** 20 * 5 ** 40, 60))

    def test_the_first_column_goes_by_the_question(self):
        question = (("t", ("z", "m")), ("u", ("m", "a")), ("v", ("k",)))
        house = (((0, 0),), ((0, 0),), ((0,),))
        self.refused(question, house, (1, (0, 0, 0)), "z")
        self.refused(question, house, (2, (2, 1, 1)), "a")
        self.refused(question, house, (2, (2, 2, 1)), "k")
        self.refused(question, house, (3, (0, 2, 3)), "z")
        self.refused(question, house, (3, (3, 0, 0)), "a")

    def test_no_cover_of_tables_without_rows(self):
        self.refused(RING, ring_house(0, 0, 0), (2, (2, 0, 1)), "c")

    def test_never_fewer_than_there_are_answers(self):
        chance = random.Random(83)
        for question, house in plain.made_houses(89, 80):
            number = len(answers(question, house))
            covers = [plain.made_cover(chance, question) for turn in range(4)]
            covers.append(cover(question, plain.made_exponents(chance, question))[1])
            covers.append(cover(question, tuple(len(rows).bit_length() for rows in house))[1])
            for shares in covers:
                told = most(question, house, shares)
                self.assertGreaterEqual(told, number)
                self.assertLessEqual(number ** shares[0], product_of(house, shares))
                self.assertTrue(told ** shares[0] <= product_of(house, shares) < (told + 1) ** shares[0])
                self.assertEqual(most(question, house, shares), told)

    def test_met(self):
        full = tuple(itertools.product(range(3), repeat=2))
        self.assertEqual(most(RING, (full, full, full), (2, (1, 1, 1))), 27)
        self.assertEqual(len(answers(RING, (full, full, full))), 27)


class LooksFit(unittest.TestCase):
    def edge(self, question, house, shares, looks):
        self.assertIs(looks_fit(question, house, shares, looks), True)
        self.assertIs(looks_fit(question, house, shares, looks + 1), False)

    def test_at_the_very_edge(self):
        # Three columns times three tables, times the root of 4 * 4 * 4.
        self.edge(RING, ring_house(4, 4, 4), (2, (1, 1, 1)), 9 * 8)
        # 69 * 69 is 4761, 70 * 70 is 4900, the bound 81 * 60.
        self.edge(RING, ring_house(3, 4, 5), (2, (1, 1, 1)), 69)
        self.edge(RING, ring_house(3, 4, 5), (1, (1, 1, 0)), 9 * 12)
        self.edge((("t", ("a", "b")),), (rows_of(7),), (1, (1,)), 2 * 7)
        self.edge((("t", ("a", "b")),), (rows_of(7),), (60, (60,)), 2 * 7)
        self.edge((("t", ("a", "b", "c", "d")), ("u", ("e",))), (((0, 0, 0, 0),), ((1,), (2,))), (3, (3, 3)), 10 * 2)

    def test_a_table_without_rows(self):
        self.edge(RING, ring_house(0, 4, 5), (2, (1, 1, 1)), 0)
        self.edge(RING, ring_house(0, 4, 5), (1, (0, 1, 1)), 9 * 20)

    def test_few_and_many(self):
        self.assertIs(looks_fit(RING, ring_house(4, 4, 4), (2, (1, 1, 1)), 0), True)
        self.assertIs(looks_fit(RING, ring_house(4, 4, 4), (2, (1, 1, 1)), 10 ** 50), False)
        self.assertIs(looks_fit(RING, ring_house(3000, 3000, 3000), (60, (30, 30, 30)), 10 ** 6), True)

    def test_the_looks_by_columns(self):
        chance = random.Random(97)
        for question, house in plain.made_houses(101, 60):
            orders = list(itertools.permutations(plain.slow_columns(question)))
            covers = [plain.made_cover(chance, question) for turn in range(3)]
            covers.append(cover(question, tuple(len(rows).bit_length() for rows in house))[1])
            for order in chance.sample(orders, min(6, len(orders))):
                looks = by_columns(question, house, order)[2]
                for shares in covers:
                    self.assertIs(looks_fit(question, house, shares, looks), True)
                    factor = len(order) * len(question)
                    self.edge(question, house, shares, root(product_of(house, shares) * factor ** shares[0], shares[0]))
