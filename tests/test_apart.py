import itertools
import random
import unittest

import plain
from mostrows.apart import apart, together

NOTHING = ((), ())
BLANK = ((), ((),))
THREE = (("a", "b", "c"), ((0, 1, 2), (3, 1, 4), (3, 5, 2)))


def slow_together(table, some):
    parts = [plain.slow_cut(table, columns) for columns in some]
    every = [sorted({row[place] for row in table[1]}) for place in range(len(table[0]))]
    for row in itertools.product(*every):
        cuts = [plain.slow_cut((table[0], (row,)), columns)[1][0] for columns in some]
        if row not in table[1] and all(one in part[1] for one, part in zip(cuts, parts)):
            return ("more", row)
    return ("same",)


class Apart(unittest.TestCase):
    def test_apart(self):
        self.assertEqual(apart(THREE, (("a", "b"), ("c",))), [
            (("a", "b"), ((0, 1), (3, 1), (3, 5))), (("c",), ((2,), (4,)))])
        self.assertEqual(apart(THREE, (("c", "a"), ("b", "c"))), [
            (("c", "a"), ((2, 0), (2, 3), (4, 3))), (("b", "c"), ((1, 2), (1, 4), (5, 2)))])

    def test_apart_alike_or_without_columns(self):
        bs = (("b",), ((1,), (5,)))
        self.assertEqual(apart(THREE, (("b",), (), ("b",), ("a", "b", "c"))), [bs, BLANK, bs, THREE])
        self.assertEqual(apart((("a",), ()), ((), ("a",))), [NOTHING, (("a",), ())])
        self.assertEqual(apart(BLANK, ((), ())), [BLANK, BLANK])

    def test_the_list_is_the_askers_own(self):
        some = (("a", "b"), ("b", "c"))
        told = apart(THREE, some)
        before = list(told)
        told.append(BLANK)
        told[0] = NOTHING
        self.assertEqual(apart(THREE, some), before)
        self.assertEqual(some, (("a", "b"), ("b", "c")))


class Together(unittest.TestCase):
    def test_same(self):
        self.assertEqual(together(THREE, (("a", "b", "c"),)), ("same",))
        self.assertEqual(together(THREE, (("c", "a"), ("b", "c", "a"))), ("same",))
        keyed = (("a", "b", "c"), ((0, 1, 2), (1, 1, 4), (2, 5, 2)))
        self.assertEqual(together(keyed, (("a", "b"), ("a", "c"))), ("same",))
        self.assertEqual(together(keyed, (("c", "a"), (), ("b", "a"), ("a", "c"))), ("same",))

    def test_more_with_the_first_row_that_is_more(self):
        self.assertEqual(together(THREE, (("a", "b"), ("b", "c"))), ("more", (0, 1, 4)))
        self.assertEqual(together(THREE, (("b", "c"), ("b", "a"))), ("more", (0, 1, 4)))
        self.assertEqual(together(THREE, (("a",), ("b",), ("c",))), ("more", (0, 1, 4)))
        self.assertEqual(together(THREE, (("c",), ("b",), ("a",))), ("more", (0, 1, 4)))
        self.assertEqual(together(THREE, (("c", "b"), ("a",))), ("more", (0, 1, 4)))

    def test_the_first_is_by_the_tables_own_order(self):
        table = (("a", "b"), ((0, 1), (1, 0), (2, 2)))
        self.assertEqual(together(table, (("a",), ("b",))), ("more", (0, 0)))
        skewed = (("a", "b"), ((0, 0), (0, 1), (1, 1), (2, 0), (2, 3)))
        self.assertEqual(together(skewed, (("b",), ("a",))), ("more", (0, 3)))

    def test_alike_and_without_columns(self):
        self.assertEqual(together(THREE, (("a", "b", "c"), ("a", "b", "c"))), ("same",))
        self.assertEqual(together(THREE, ((), ("c", "b", "a"), ())), ("same",))
        self.assertEqual(together(THREE, ((), ("a", "b"), ("a", "b"), ("c",))), ("more", (0, 1, 4)))

    def test_without_rows_or_columns(self):
        self.assertEqual(together((("a", "b"), ()), (("a",), ("b",))), ("same",))
        self.assertEqual(together((("a", "b"), ()), ((), ("b", "a"))), ("same",))
        self.assertEqual(together(BLANK, ((),)), ("same",))
        self.assertEqual(together(NOTHING, ((), ())), ("same",))

    def test_by_no_rows_of_columns(self):
        # Joined, no tables at all make the row without values: else there would be fewer rows than BLANK has.
        self.assertEqual(apart(BLANK, ()), [])
        self.assertEqual(together(BLANK, ()), ("same",))
        self.assertEqual(together(NOTHING, ()), ("more", ()))

    def test_many(self):
        chance = random.Random(23)
        told = []
        for turn in range(300):
            table = plain.made_table(chance, names="abcd", width=chance.randint(1, 4), most=5)
            some = [tuple(chance.sample(table[0], chance.randint(0, len(table[0])))) for count in range(2)]
            some.append(tuple(column for column in table[0] if all(column not in columns for columns in some)))
            chance.shuffle(some)
            told.append(together(table, tuple(some)))
            self.assertEqual(told[-1], slow_together(table, some))
            self.assertEqual(together(table, tuple(some)), told[-1])
        self.assertTrue(told.count(("same",)) > 30)
        self.assertTrue(len(told) - told.count(("same",)) > 30)
