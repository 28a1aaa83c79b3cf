import random
import unittest

import plain
from mostrows.errors import BadTable, RowsError
from mostrows.tables import cut, joined, kept, look_table, table_of, thinned_by, values_in

NOTHING = ((), ())
BLANK = ((), ((),))
PETS = (("who", "pet"), ((1, 5), (1, 7), (2, 5), (4, 0)))


class LookTable(unittest.TestCase):
    def refused(self, table, at):
        with self.assertRaises(BadTable) as caught:
            look_table(table)
        self.assertEqual(caught.exception.at, at)
        self.assertIsInstance(caught.exception, RowsError)

    def test_let_by(self):
        for table in (NOTHING, BLANK, PETS, (("a",), ()), (("a",), ((0,), (999,))),
                      (("f", "e", "d", "c", "b", "a"), ((0, 0, 0, 0, 0, 0), (0, 0, 0, 0, 0, 1), (0, 0, 0, 0, 1, 0))),
                      (("a", "b"), ((0, 999), (1, 0), (1, 1))), (("a",), tuple((value,) for value in range(60)))):
            with self.subTest(table=table):
                self.assertIs(look_table(table), True)

    def test_somewhat_beyond_the_bounds_is_let_by(self):
        self.assertIs(look_table((tuple("abcdefgh"), (tuple(range(8)),))), True)
        self.assertIs(look_table((("a",), tuple((value,) for value in range(90)))), True)

    def test_columns_wrong(self):
        for columns in (("a", "a"), ("a", "b", "a"), ("A",), ("",), ("a", "bcdefgh"), ("b", "a1"), ("a\n",), ("a b",)):
            with self.subTest(columns=columns):
                self.refused((columns, ()), -1)
                self.refused((columns, (tuple(range(len(columns))),)), -1)

    def test_columns_wrong_and_a_row_wrong(self):
        self.refused((("a", "a"), ((1,), (-1, 5000))), -1)
        self.refused((("A",), ((3,), (2,))), -1)

    def test_a_row_of_another_count(self):
        self.refused((("a", "b"), ((1,),)), 0)
        self.refused((("a", "b"), ((1, 2), (1, 2, 3))), 1)
        self.refused((("a", "b"), ((1, 2), (2, 2), ())), 2)
        self.refused(((), ((), (4,))), 1)
        self.refused((("a",), ((),)), 0)

    def test_a_value_out_of_bounds(self):
        self.refused((("a",), ((-1,),)), 0)
        self.refused((("a",), ((1000,),)), 0)
        self.refused((("a", "b"), ((0, 0), (0, 999), (0, 1000))), 2)
        self.refused((("a", "b"), ((0, 0), (1, -1))), 1)
        self.refused((("a",), ((1,), (10 ** 40,))), 1)

    def test_rows_that_do_not_rise(self):
        self.refused((("a",), ((1,), (1,))), 1)
        self.refused((("a",), ((1,), (2,), (0,))), 2)
        self.refused((("a", "b"), ((1, 2), (1, 1))), 1)
        self.refused((("a", "b"), ((1, 2), (0, 3))), 1)
        self.refused(((), ((), ())), 1)

    def test_the_first_wrong_row_is_told(self):
        self.refused((("a",), ((5,), (4,), (1000,), (1, 2))), 1)
        self.refused((("a",), ((5,), (6, 6), (5,))), 1)
        self.refused((("a",), ((5,), (6,), (-2,), (6,))), 2)

    def test_a_truth_is_no_value(self):
        self.refused((("a",), ((0,), (True,))), 1)
        self.refused((("a",), ((False,),)), 0)


class TableOf(unittest.TestCase):
    def test_any_order_some_twice(self):
        rows = [(3, 1), (0, 2), (3, 1), (0, 1), (3, 0), (0, 2)]
        told = (("b", "a"), ((0, 1), (0, 2), (3, 0), (3, 1)))
        before = list(rows)
        self.assertEqual(table_of(("b", "a"), rows), told)
        self.assertEqual(rows, before)
        self.assertEqual(table_of(("b", "a"), tuple(rows)), told)
        rows.append((9, 9))
        self.assertEqual(told, table_of(("b", "a"), tuple(before)))

    def test_numbers_not_texts_are_sorted(self):
        self.assertEqual(table_of(("a",), [(100,), (20,), (3,)])[1], ((3,), (20,), (100,)))

    def test_without_rows_or_columns(self):
        self.assertEqual(table_of(("a",), []), (("a",), ()))
        self.assertEqual(table_of((), ()), NOTHING)
        self.assertEqual(table_of((), [(), (), ()]), BLANK)

    def test_many_are_tables(self):
        chance = random.Random(7)
        for turn in range(60):
            rows = [(chance.randint(0, 999), chance.randint(0, 3)) for count in range(chance.randint(0, 60))]
            told = table_of(("x", "y"), rows + rows[:5])
            self.assertIs(look_table(told), True)
            self.assertEqual(set(told[1]), set(rows))


class CutAndKept(unittest.TestCase):
    def test_cut(self):
        self.assertEqual(cut(PETS, ("who",)), (("who",), ((1,), (2,), (4,))))
        self.assertEqual(cut(PETS, ("pet",)), (("pet",), ((0,), (5,), (7,))))
        self.assertEqual(cut(PETS, ("pet", "who")), (("pet", "who"), ((0, 4), (5, 1), (5, 2), (7, 1))))
        self.assertEqual(cut(PETS, ("who", "pet")), PETS)

    def test_cut_to_no_columns(self):
        self.assertEqual(cut(PETS, ()), BLANK)
        self.assertEqual(cut((("a", "b"), ()), ()), NOTHING)
        self.assertEqual(cut(BLANK, ()), BLANK)
        self.assertEqual(cut(NOTHING, ()), NOTHING)

    def test_cut_of_no_rows(self):
        self.assertEqual(cut((("a", "b"), ()), ("b",)), (("b",), ()))

    def test_cut_of_many(self):
        chance = random.Random(11)
        for table in plain.made_tables(5, 80):
            columns = tuple(chance.sample(table[0], chance.randint(0, len(table[0]))))
            self.assertEqual(cut(table, columns), plain.slow_cut(table, columns))

    def test_kept(self):
        self.assertEqual(kept(PETS, "who", 1), (("who", "pet"), ((1, 5), (1, 7))))
        self.assertEqual(kept(PETS, "pet", 5), (("who", "pet"), ((1, 5), (2, 5))))
        self.assertEqual(kept(PETS, "pet", 0), (("who", "pet"), ((4, 0),)))

    def test_kept_by_a_value_that_is_not_there(self):
        self.assertEqual(kept(PETS, "who", 5), (("who", "pet"), ()))
        self.assertEqual(kept(PETS, "pet", 999), (("who", "pet"), ()))
        self.assertEqual(kept((("a",), ()), "a", 0), (("a",), ()))

    def test_values_in(self):
        told = values_in(PETS, "pet")
        self.assertEqual(told, [0, 5, 7])
        told.append(8)
        told[0] = 6
        self.assertEqual(values_in(PETS, "pet"), [0, 5, 7])
        self.assertEqual(values_in(PETS, "who"), [1, 2, 4])
        self.assertEqual(values_in((("a",), ()), "a"), [])
        self.assertEqual(values_in((("a", "b"), ((1, 100), (2, 20), (3, 3))), "b"), [3, 20, 100])


class JoinedAndThinned(unittest.TestCase):
    def test_joined_with_columns_in_common(self):
        sounds = (("pet", "sound"), ((5, 1), (5, 2), (6, 3), (7, 0)))
        self.assertEqual(joined(PETS, sounds), (
            ("who", "pet", "sound"), ((1, 5, 1), (1, 5, 2), (1, 7, 0), (2, 5, 1), (2, 5, 2))))
        self.assertEqual(joined(sounds, PETS), (
            ("pet", "sound", "who"), ((5, 1, 1), (5, 1, 2), (5, 2, 1), (5, 2, 2), (7, 0, 1))))

    def test_joined_with_two_columns_in_common_in_another_order(self):
        other = (("pet", "who"), ((0, 4), (5, 4), (7, 1)))
        self.assertEqual(joined(PETS, other), (("who", "pet"), ((1, 7), (4, 0))))
        self.assertEqual(joined(other, PETS), (("pet", "who"), ((0, 4), (7, 1))))

    def test_joined_with_none_in_common(self):
        one = (("b",), ((1,), (2,)))
        other = (("a",), ((0,), (9,)))
        self.assertEqual(joined(one, other), (("b", "a"), ((1, 0), (1, 9), (2, 0), (2, 9))))
        self.assertEqual(joined(other, one), (("a", "b"), ((0, 1), (0, 2), (9, 1), (9, 2))))

    def test_joined_with_no_rows(self):
        for other in ((("pet", "x"), ()), (("x",), ())):
            self.assertEqual(joined(PETS, other), (("who", "pet", "x"), ()))
        self.assertEqual(joined((("pet", "x"), ()), PETS), (("pet", "x", "who"), ()))

    def test_joined_with_no_columns(self):
        self.assertEqual(joined(PETS, BLANK), PETS)
        self.assertEqual(joined(BLANK, PETS), PETS)
        self.assertEqual(joined(PETS, NOTHING), (("who", "pet"), ()))
        self.assertEqual(joined(NOTHING, PETS), (("who", "pet"), ()))
        self.assertEqual(joined(BLANK, BLANK), BLANK)
        self.assertEqual(joined(BLANK, NOTHING), NOTHING)

    def test_joined_and_thinned_with_itself(self):
        for table in (PETS, BLANK, NOTHING, (("a",), ())):
            self.assertEqual(joined(table, table), table)
            self.assertEqual(thinned_by(table, table), table)

    def test_thinned_with_columns_in_common(self):
        other = (("sound", "pet"), ((1, 7), (2, 0), (3, 7), (4, 9)))
        self.assertEqual(thinned_by(PETS, other), (("who", "pet"), ((1, 7), (4, 0))))
        self.assertEqual(thinned_by(other, PETS), (("sound", "pet"), ((1, 7), (2, 0), (3, 7))))
        crossed = (("pet", "who"), ((0, 4), (4, 0), (5, 1)))
        self.assertEqual(thinned_by(PETS, crossed), (("who", "pet"), ((1, 5), (4, 0))))

    def test_thinned_with_none_in_common(self):
        self.assertEqual(thinned_by(PETS, (("x",), ((3,),))), PETS)
        self.assertEqual(thinned_by(PETS, (("x",), ())), (("who", "pet"), ()))
        self.assertEqual(thinned_by((("x",), ()), PETS), (("x",), ()))

    def test_thinned_with_no_rows_or_no_columns(self):
        self.assertEqual(thinned_by(PETS, (("pet",), ())), (("who", "pet"), ()))
        self.assertEqual(thinned_by((("pet",), ()), PETS), (("pet",), ()))
        self.assertEqual(thinned_by(PETS, BLANK), PETS)
        self.assertEqual(thinned_by(PETS, NOTHING), (("who", "pet"), ()))
        self.assertEqual(thinned_by(BLANK, PETS), BLANK)
        self.assertEqual(thinned_by(NOTHING, PETS), NOTHING)
        self.assertEqual(thinned_by(BLANK, (("a",), ())), NOTHING)

    def test_many_either_way_about(self):
        tables = plain.made_tables(3, 60)
        for one in tables:
            for other in tables[:20]:
                self.assertEqual(joined(one, other), plain.slow_joined(one, other))
                self.assertEqual(joined(other, one), plain.slow_joined(other, one))
                self.assertEqual(thinned_by(one, other), plain.slow_thinned(one, other))
                self.assertEqual(thinned_by(other, one), plain.slow_thinned(other, one))

    def test_the_greatest_tables_of_the_stage(self):
        one = (tuple("abcdef"), tuple((row, 0, 0, 0, 0, row % 2) for row in range(60)))
        other = (tuple("fghijk"), tuple((row % 2, row, 0, 0, 0, 999) for row in range(0, 60, 2)))
        told = joined(one, table_of(other[0], other[1]))
        self.assertEqual(len(told[0]), 11)
        self.assertEqual(len(told[1]), 30 * 30)
        self.assertIs(look_table(told), True)

    def test_asked_again_told_the_same(self):
        for ask in (lambda: cut(PETS, ("pet",)), lambda: kept(PETS, "who", 1), lambda: joined(PETS, PETS),
                    lambda: thinned_by(PETS, BLANK)):
            self.assertEqual(ask(), ask())
        self.assertEqual(PETS, (("who", "pet"), ((1, 5), (1, 7), (2, 5), (4, 0))))
