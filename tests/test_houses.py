import random
import unittest

import plain
from mostrows.errors import BadHouse, RowsError
from mostrows.houses import answers, house_part, is_answer, is_fit, look_house, tables_of
from mostrows.tables import look_table

RING = (("t", ("a", "b")), ("u", ("b", "c")), ("v", ("c", "a")))
HOUSE = (((0, 0), (0, 1), (1, 0)), ((0, 0), (0, 2), (1, 0)), ((0, 0), (0, 1), (2, 0)))


def rows_of(number):
    return tuple((value // 1000, value % 1000) for value in range(number))


class LookHouse(unittest.TestCase):
    def refused(self, question, house, table):
        with self.assertRaises(BadHouse) as caught:
            look_house(question, house)
        self.assertEqual(caught.exception.table, table)
        self.assertIsInstance(caught.exception, RowsError)

    def test_let_by(self):
        for house in (HOUSE, ((), (), ()), (((0, 999),), (), ((999, 0), (999, 999)))):
            self.assertIs(look_house(RING, house), True)
        self.assertIs(look_house((("t", ("t",)),), (((4,), (5,)),)), True)

    def test_houses_that_are_not_fit_are_let_by(self):
        house = tuple(tuple((value, value) for value in range(40)) for table in RING)
        self.assertIs(look_house(RING, house), True)

    def test_rows_that_are_wrong(self):
        wrong = [((0,),), ((0, 1, 2),), ((),), ((-1, 0),), ((0, 1000),), ((0, 0), (0, 0)), ((1, 0), (0, 5)),
                 ((0, 0), (0, 1), (0, 10 ** 30))]
        for rows in wrong:
            with self.subTest(rows=rows):
                self.refused(RING, (rows, HOUSE[1], HOUSE[2]), "t")
                self.refused(RING, (HOUSE[0], rows, HOUSE[2]), "u")
                self.refused(RING, (HOUSE[0], HOUSE[1], rows), "v")
                self.refused(RING, (HOUSE[0], rows, rows), "u")
                self.refused(RING, (HOUSE[0], rows), "u")
                self.refused(RING, (HOUSE[0], rows, HOUSE[2], ()), "u")

    def test_tables_that_have_none(self):
        self.refused(RING, (), "t")
        self.refused(RING, HOUSE[:1], "u")
        self.refused(RING, HOUSE[:2], "v")

    def test_more_than_tables(self):
        self.refused(RING, HOUSE + ((),), "")
        self.refused(RING, HOUSE + (((-1,),), ((3, 2, 1),)), "")


class Tables(unittest.TestCase):
    def test_tables_of(self):
        told = tables_of(RING, HOUSE)
        self.assertEqual(told, [(("a", "b"), HOUSE[0]), (("b", "c"), HOUSE[1]), (("c", "a"), HOUSE[2])])
        told.pop()
        told[0] = None
        self.assertEqual(tables_of(RING, HOUSE)[0], (("a", "b"), HOUSE[0]))
        self.assertEqual(len(tables_of(RING, HOUSE)), 3)

    def test_of_any_house(self):
        self.assertEqual(tables_of((("t", ("a", "b")),), (rows_of(4000),)), [(("a", "b"), rows_of(4000))])

    def test_house_part(self):
        for kind in (tuple, list):
            self.assertEqual(house_part(RING, HOUSE, kind(("v", "t"))), (HOUSE[0], HOUSE[2]))
            self.assertEqual(house_part(RING, HOUSE, kind(("u",))), (HOUSE[1],))
            self.assertEqual(house_part(RING, HOUSE, kind(("u", "v", "t"))), HOUSE)

    def test_house_part_goes_by_names_not_columns(self):
        question = (("a", ("b",)), ("b", ("a",)), ("ab", ("a", "b")))
        house = (((1,),), ((2,),), ((3, 4),))
        self.assertEqual(house_part(question, house, ["b"]), (((2,),),))
        self.assertEqual(house_part(question, house, ("ab", "a")), (((1,),), ((3, 4),)))

    def test_house_part_leaves_what_was_handed_in(self):
        names = ["v", "t"]
        told = house_part(RING, HOUSE, names)
        self.assertEqual(names, ["v", "t"])
        names.clear()
        self.assertEqual(told, (HOUSE[0], HOUSE[2]))
        self.assertEqual(house_part(RING, HOUSE, ["v", "t"]), told)


class Fit(unittest.TestCase):
    def test_about_three_thousand(self):
        self.assertIs(is_fit((rows_of(40), rows_of(25), rows_of(3))), True)
        self.assertIs(is_fit((rows_of(3000),)), True)
        self.assertIs(is_fit((rows_of(3001),)), False)
        self.assertIs(is_fit((rows_of(2999),)), True)
        self.assertIs(is_fit((rows_of(38), rows_of(79))), False)
        self.assertIs(is_fit((rows_of(1), rows_of(37), rows_of(9), rows_of(9))), True)
        self.assertIs(is_fit((rows_of(40), rows_of(40), rows_of(2))), False)
        self.assertIs(is_fit(tuple(rows_of(40) for table in range(6))), False)

    def test_tables_without_rows_do_not_count(self):
        self.assertIs(is_fit(((),)), True)
        self.assertIs(is_fit(((), (), ())), True)
        self.assertIs(is_fit(((), rows_of(3000), ())), True)
        self.assertIs(is_fit(((), rows_of(40), rows_of(40), rows_of(2))), False)
        self.assertIs(is_fit((rows_of(3001), ())), False)


class Answers(unittest.TestCase):
    def test_a_ring(self):
        self.assertEqual(answers(RING, HOUSE), ((0, 0, 0), (0, 0, 2), (0, 1, 0), (1, 0, 0)))

    def test_one_table(self):
        self.assertEqual(answers((("t", ("b", "a")),), (((0, 3), (2, 1)),)), ((0, 3), (2, 1)))
        self.assertEqual(answers((("t", ("b", "a")),), ((),)), ())

    def test_without_a_column_in_common(self):
        question = (("t", ("b",)), ("u", ("a",)))
        self.assertEqual(answers(question, (((5,), (7,)), ((1,), (2,)))), ((5, 1), (5, 2), (7, 1), (7, 2)))

    def test_a_table_without_rows(self):
        self.assertEqual(answers(RING, (HOUSE[0], (), HOUSE[2])), ())
        self.assertEqual(answers((("t", ("b",)), ("u", ("a",))), (((5,), (7,)), ())), ())
        self.assertEqual(answers((("t", ("b",)), ("u", ("a",))), ((), ((5,), (7,)))), ())

    def test_none(self):
        self.assertEqual(answers((("t", ("a",)), ("u", ("a",))), (((0,), (2,)), ((1,), (3,)))), ())

    def test_many(self):
        met = 0
        for question, house in plain.made_houses(29, 120):
            self.assertIs(look_house(question, house), True)
            self.assertIs(is_fit(house), True)
            told = answers(question, house)
            self.assertEqual(told, plain.slow_answers(question, house))
            self.assertEqual(answers(question, house), told)
            self.assertIs(look_table((plain.slow_columns(question), told)), True)
            met += len(told) > 1
        self.assertGreater(met, 20)

    def test_just_three_thousand(self):
        question = (("t", ("a",)), ("u", ("b",)), ("v", ("c",)))
        house = (tuple((value,) for value in range(40)), tuple((value,) for value in range(25)), ((0,), (1,), (2,)))
        told = answers(question, house)
        self.assertEqual(len(told), 3000)
        self.assertEqual(told, tuple(sorted(set(told))))


class IsAnswer(unittest.TestCase):
    def test_answers_are(self):
        for row in answers(RING, HOUSE):
            self.assertIs(is_answer(RING, HOUSE, row), True)

    def test_rows_with_one_value_otherwise(self):
        told = answers(RING, HOUSE)
        for row in told:
            for place in range(3):
                for value in (-1, -10 ** 20, 0, 1, 2, 3, 999, 1000, 10 ** 20):
                    other = row[:place] + (value,) + row[place + 1:]
                    self.assertIs(is_answer(RING, HOUSE, other), other in told)

    def test_rows_with_a_value_more_or_fewer(self):
        for row in answers(RING, HOUSE):
            for other in (row + (0,), (0,) + row, row[1:], row[:-1], (), row + row):
                self.assertIs(is_answer(RING, HOUSE, other), False)

    def test_of_a_house_that_is_not_fit(self):
        house = tuple(tuple((value, value) for value in range(40)) for table in RING)
        self.assertIs(is_answer(RING, house, (39, 39, 39)), True)
        self.assertIs(is_answer(RING, house, (39, 39, 38)), False)

    def test_a_table_without_rows(self):
        self.assertIs(is_answer(RING, (HOUSE[0], HOUSE[1], ()), (0, 0, 0)), False)

    def test_many(self):
        chance = random.Random(31)
        for question, house in plain.made_houses(37, 60):
            width = len(plain.slow_columns(question))
            told = answers(question, house)
            some = [tuple(chance.randint(-1, 3) for count in range(width)) for turn in range(20)]
            for row in list(told[:20]) + some:
                self.assertIs(is_answer(question, house, row), row in told)
