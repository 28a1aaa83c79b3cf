import itertools
import random
import unittest

import plain
from mostrows.counting import how_many
from mostrows.errors import NoAnswer, NoEars
from mostrows.houses import is_answer
from mostrows.places import answer_at, place_of, shown

CHAIN = (("t", ("a", "b")), ("u", ("c", "b")), ("v", ("c", "d")))
LINKS = (((0, 1), (0, 2), (3, 1), (4, 9)), ((5, 1), (6, 1), (7, 8), (8, 2)), ((0, 0), (5, 2), (6, 3), (6, 4)))
TOLD = ((0, 1, 5, 2), (0, 1, 6, 3), (0, 1, 6, 4), (3, 1, 5, 2), (3, 1, 6, 3), (3, 1, 6, 4))
EMPTY = (((0, 1), (0, 2)), ((5, 1), (6, 3)), ((6, 3), (7, 4)))
GREAT = 10 ** 30


def made(seed, number):
    chance = random.Random(seed)
    found = []
    while len(found) < number:
        question = plain.made_eared(chance)
        found.append((question, plain.made_house(chance, question)))
    return found


class AnswerAt(unittest.TestCase):
    def none_at(self, question, house, k):
        with self.assertRaises(NoAnswer):
            answer_at(question, house, k)

    def test_each_place_and_the_one_behind_the_last(self):
        self.assertEqual(plain.slow_answers(CHAIN, LINKS), TOLD)
        self.assertEqual(tuple(answer_at(CHAIN, LINKS, k) for k in range(6)), TOLD)
        for k in (6, 7, 40, 10 ** 12, GREAT):
            self.none_at(CHAIN, LINKS, k)

    def test_the_tables_order_is_of_no_matter_for_the_columns(self):
        # The columns stand as the question has them, not as the tables are taken off.
        for order in itertools.permutations(range(3)):
            question = tuple(CHAIN[at] for at in order)
            house = tuple(LINKS[at] for at in order)
            told = plain.slow_answers(question, house)
            self.assertEqual(tuple(answer_at(question, house, k) for k in range(6)), told)

    def test_no_answers(self):
        for house in (EMPTY, LINKS[:2] + ((),), ((), (), ())):
            for k in (0, 1, GREAT):
                self.none_at(CHAIN, house, k)
        self.none_at(CHAIN[:1], ((),), 0)

    def test_one_table(self):
        rows = ((0, 3), (0, 4), (2, 1))
        self.assertEqual(tuple(answer_at(CHAIN[:1], (rows,), k) for k in range(3)), rows)
        self.none_at(CHAIN[:1], (rows,), 3)

    def test_many(self):
        for question, house in made(283, 60):
            told = plain.slow_answers(question, house)
            for k in sorted({0, 1, len(told) // 2, len(told) - 1} & set(range(len(told)))):
                self.assertEqual(answer_at(question, house, k), told[k])
                self.assertEqual(answer_at(question, house, k), told[k])
            self.none_at(question, house, len(told))

    def test_millions(self):
        chance = random.Random(293)
        for number in (4, 5, 6):
            question, house = plain.column_apart(number)
            for k in [0, 1, 39, 40, 40 ** number - 1] + [chance.randrange(40 ** number) for turn in range(5)]:
                figures = [k // 40 ** (number - 1 - at) % 40 for at in range(number)]
                row = tuple(figure * (at + 2) + at for at, figure in enumerate(figures))
                self.assertEqual(answer_at(question, house, k), row)
                self.assertEqual(place_of(question, house, row), k)
            for k in (40 ** number, 40 ** number + 1, 10 ** 12):
                self.none_at(question, house, k)

    def test_a_star(self):
        chance = random.Random(307)
        question, house = plain.made_star(chance, 4)
        told = plain.star_answers(house)
        self.assertGreater(len(told), 5000)
        self.assertEqual(how_many(question, house), len(told))
        for k in [0, len(told) - 1] + [chance.randrange(len(told)) for turn in range(20)]:
            self.assertEqual(answer_at(question, house, k), told[k])
            self.assertEqual(place_of(question, house, told[k]), k)
        self.none_at(question, house, len(told))

    def test_no_ears_ahead_of_no_answer(self):
        for question in plain.ALL_RINGS:
            for house in (plain.house_of_noughts(question), ((),) * len(question)):
                for k in (0, 1, GREAT):
                    with self.assertRaises(NoEars):
                        answer_at(question, house, k)


class PlaceOf(unittest.TestCase):
    def test_answers(self):
        self.assertEqual([place_of(CHAIN, LINKS, row) for row in TOLD], [0, 1, 2, 3, 4, 5])

    def test_rows_that_are_none(self):
        for row, place in (((0, 0, 999, 999), 0), ((0, 1, 5, 1), 0), ((0, 1, 5, 3), 1), ((0, 1, 6, 0), 1),
                           ((0, 1, 7, 0), 3), ((0, 2, 0, 0), 3), ((2, 0, 0, 0), 3), ((3, 1, 5, 2), 3),
                           ((3, 1, 6, 5), 6), ((3, 1, 5, 999), 4)):
            self.assertEqual(place_of(CHAIN, LINKS, row), place)

    def test_the_row_of_noughts_and_the_row_of_999(self):
        for question, house in made(311, 20) + [plain.column_apart(6)]:
            width = len(plain.slow_columns(question))
            self.assertEqual(place_of(question, house, (0,) * width), 0)
            self.assertEqual(place_of(question, house, (999,) * width), how_many(question, house))
        question = (("t", ("a",)), ("u", ("b",)))
        self.assertEqual(place_of(question, (((999,),), ((998,), (999,))), (999, 999)), 1)
        self.assertEqual(place_of(question, (((0,),), ((0,), (1,))), (0, 1)), 1)

    def test_no_answers(self):
        for house in (EMPTY, LINKS[:2] + ((),)):
            for row in ((0, 0, 0, 0), (3, 1, 5, 2), (999, 999, 999, 999)):
                self.assertEqual(place_of(CHAIN, house, row), 0)

    def test_every_row_of_few_values(self):
        for question, house in made(313, 40):
            told = plain.slow_answers(question, house)
            columns = plain.slow_columns(question)
            rows = list(itertools.product(range(4), repeat=len(columns)))
            for row in random.Random(317).sample(rows, min(len(rows), 30)):
                self.assertEqual(place_of(question, house, row), sum(one < row for one in told))

    def test_the_place_of_the_answer_at_a_place(self):
        for question, house in made(331, 40):
            for k in range(min(how_many(question, house), 8)):
                self.assertEqual(place_of(question, house, answer_at(question, house, k)), k)

    def test_rows_beside_the_answers_of_a_star(self):
        chance = random.Random(337)
        question, house = plain.made_star(chance, 4)
        told = plain.star_answers(house)
        for turn in range(15):
            row = (chance.randrange(6),) + tuple(chance.randrange(85) for table in question)
            self.assertEqual(place_of(question, house, row), sum(one < row for one in told))

    def test_no_ears(self):
        for question in plain.ALL_RINGS:
            for house in (plain.house_of_noughts(question), ((),) * len(question)):
                with self.assertRaises(NoEars):
                    place_of(question, house, (0,) * len(plain.slow_columns(question)))


class Shown(unittest.TestCase):
    def looked(self, question, house, name, row):
        told = shown(question, house, name, row)
        self.assertEqual(shown(question, house, name, row), told)
        if told is not None:
            self.assertIs(is_answer(question, house, told), True)
            self.assertTrue(plain.slow_is_answer(question, house, told))
            values = plain.row_as_dict(plain.slow_columns(question), told)
            self.assertEqual(tuple(values[column] for column in dict(question)[name]), row)
        return told is not None

    def test_rows_in_an_answer_and_in_none(self):
        for at, kept in enumerate((((0, 1), (3, 1)), ((5, 1), (6, 1)), ((5, 2), (6, 3), (6, 4)))):
            for row in LINKS[at]:
                self.assertIs(self.looked(CHAIN, LINKS, CHAIN[at][0], row), row in kept)

    def test_the_one_that_there_is(self):
        self.assertEqual(shown(CHAIN, LINKS[:2] + (((5, 2),),), "t", (3, 1)), (3, 1, 5, 2))
        self.assertEqual(shown(CHAIN, LINKS[:2] + (((5, 2),),), "u", (6, 1)), None)

    def test_rows_that_the_table_lacks(self):
        for name in "tuv":
            for row in ((9, 9), (1, 0), (2, 1), (5, 3), (0, 999), (-1, 1), (0, -1), (GREAT, 1), (0, GREAT),
                        (-GREAT, 0)):
                self.assertIsNone(shown(CHAIN, LINKS, name, row))

    def test_rows_of_another_count_of_values(self):
        for name in "tuv":
            for row in ((), (0,), (0, 1, 5), (0, 1, 5, 2), (5, 1, 5, 1), (3, 1, 1), (0,) * 50):
                self.assertIsNone(shown(CHAIN, LINKS, name, row))
        self.assertIsNone(shown((("t", ("a",)),), (((7,),),), "t", ()))
        self.assertEqual(shown((("t", ("a",)),), (((7,),),), "t", (7,)), (7,))

    def test_no_answers(self):
        for house in (EMPTY, LINKS[:2] + ((),)):
            for at, name in enumerate("tuv"):
                for row in house[at] + ((0, 0),):
                    self.assertIsNone(shown(CHAIN, house, name, row))

    def test_tables_and_columns_called_alike(self):
        question = (("b", ("a", "b")), ("a", ("b",)))
        house = (((0, 1), (2, 3)), ((1,), (4,)))
        self.assertEqual(shown(question, house, "b", (0, 1)), (0, 1))
        self.assertEqual(shown(question, house, "a", (1,)), (0, 1))
        self.assertIsNone(shown(question, house, "b", (2, 3)))
        self.assertIsNone(shown(question, house, "a", (4,)))

    def test_many(self):
        for question, house in made(347, 50):
            kept = plain.slow_thinned_house(question, house)
            for at, (name, columns) in enumerate(question):
                for row in house[at]:
                    self.assertIs(self.looked(question, house, name, row), row in kept[at])

    def test_millions(self):
        question, house = plain.column_apart(6)
        for at, (name, columns) in enumerate(question):
            self.assertIs(self.looked(question, house, name, house[at][17]), True)
            self.assertIsNone(shown(question, house, name, (999,)))

    def test_no_ears_ahead_of_all_else(self):
        for question in plain.ALL_RINGS:
            for row in ((0,) * len(question[0][1]), (1, 1), ()):
                for house in (plain.house_of_noughts(question), ((),) * len(question)):
                    with self.assertRaises(NoEars):
                        shown(question, house, question[0][0], row)
