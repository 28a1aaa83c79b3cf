import unittest

import plain
from mostrows.errors import BadQuestion, RowsError
from mostrows.questions import columns_of, having, look, part

RING = (("t", ("a", "b")), ("u", ("b", "c")), ("v", ("c", "a")))
ALIKE = (("a", ("b", "a")), ("b", ("a",)), ("c", ("b", "c", "d")))


class Look(unittest.TestCase):
    def refused(self, question, at):
        with self.assertRaises(BadQuestion) as caught:
            look(question)
        self.assertEqual(caught.exception.at, at)
        self.assertIsInstance(caught.exception, RowsError)

    def test_let_by(self):
        six = tuple((name, (name,)) for name in "abcdef")
        wide = (("t", ("a", "b", "c", "d")), ("u", ("e", "f", "a", "b")))
        for question in ((("t", ("a",)),), (("t", ("t",)),), (("tables", ("a", "b", "c", "d")),), RING, ALIKE, six, wide,
                         wide + (("v", ("f", "e", "d", "c")),), tuple((name, ("x",)) for name in "uvwxyz")):
            with self.subTest(question=question):
                self.assertIs(look(question), True)

    def test_without_tables(self):
        self.refused((), -1)

    def test_more_than_six_tables(self):
        seven = tuple((name, ("x",)) for name in "abcdefg")
        self.refused(seven, 6)
        self.refused(seven + (("h", ("x",)),), 6)
        self.refused(seven[:6] + (("a", ()),), 6)
        self.refused(seven[:6] + (("g", ("x",)), ("G", ())), 6)
        self.refused(seven[:2] + (("C", ("x",)),) + seven[3:], 2)
        self.refused(seven[:5] + (("a", ("x",)), ("g", ("x",))), 5)

    def test_a_table_wrong_by_itself(self):
        good = ("good", ("x", "y"))
        wrong = [("", ("a",)), ("T", ("a",)), ("abcdefg", ("a",)), ("t\n", ("a",)), ("t1", ("a",)), ("t", ()),
                 ("t", ("a", "b", "c", "d", "e")), ("t", ("a", "a")), ("t", ("a", "b", "c", "a")), ("t", ("A",)),
                 ("t", ("a", "")), ("t", ("a b",)), ("t", ("abcdefg",)), ("t", ("a", "b\n"))]
        for table in wrong:
            with self.subTest(table=table):
                self.refused((table,), 0)
                self.refused((table, good), 0)
                self.refused((good, table), 1)
                self.refused((good, table, table, table), 1)

    def test_the_name_of_one_ahead(self):
        self.refused((("t", ("a",)), ("t", ("b",))), 1)
        self.refused((("t", ("a",)), ("u", ("b",)), ("t", ("a",)), ("u", ("b",))), 2)

    def test_a_seventh_column(self):
        four = ("t", ("a", "b", "c", "d"))
        self.refused((four, ("u", ("e", "f", "g"))), 1)
        self.refused((four, ("u", ("e", "f")), ("v", ("a", "g"))), 2)
        self.refused((four, ("u", ("e", "f", "a")), ("v", ("a", "b")), ("w", ("g",)), ("x", ("h",))), 3)

    def test_several_at_once(self):
        self.refused((("t", ("a",)), ("t", ("b",)), ("U", ("c",))), 1)
        self.refused((("t", ("a",)), ("U", ("b",)), ("t", ("c",))), 1)
        self.refused((("t", ("a", "b", "c", "d")), ("u", ("e", "f", "g", "h")), ("t", ("a",))), 1)
        self.refused((("t", ("a", "b", "c", "d")), ("t", ("e", "f", "g", "h"))), 1)
        self.refused((("t", ("a", "b", "c", "d", "e")), ("u", ("f", "g"))), 0)


class Columns(unittest.TestCase):
    def test_columns_of(self):
        self.assertEqual(columns_of(RING), ("a", "b", "c"))
        self.assertEqual(columns_of(ALIKE), ("b", "a", "c", "d"))
        self.assertEqual(columns_of((("z", ("z",)),)), ("z",))
        self.assertEqual(columns_of((("u", ("f", "e")), ("t", ("d", "f")), ("a", ("e", "a")))), ("f", "e", "d", "a"))

    def test_having(self):
        self.assertEqual(having(RING, "a"), ["t", "v"])
        self.assertEqual(having(RING, "b"), ["t", "u"])
        self.assertEqual(having(ALIKE, "b"), ["a", "c"])
        self.assertEqual(having(ALIKE, "a"), ["a", "b"])
        self.assertEqual(having(ALIKE, "d"), ["c"])

    def test_the_list_is_the_askers_own(self):
        told = having(RING, "c")
        told.append("w")
        told[0] = "x"
        self.assertEqual(having(RING, "c"), ["u", "v"])

    def test_many(self):
        for question, house in plain.made_houses(41, 60):
            self.assertIs(look(question), True)
            self.assertEqual(columns_of(question), plain.slow_columns(question))
            for column in columns_of(question):
                self.assertEqual(having(question, column), [pair[0] for pair in question if column in pair[1]])


class Part(unittest.TestCase):
    def test_in_the_questions_order(self):
        for kind in (tuple, list):
            self.assertEqual(part(RING, kind(("v", "t"))), (RING[0], RING[2]))
            self.assertEqual(part(RING, kind(("u",))), (RING[1],))
            self.assertEqual(part(RING, kind(("v", "u", "t"))), RING)
            self.assertEqual(part(ALIKE, kind(("b", "a"))), ALIKE[:2])
            self.assertEqual(part((("ab", ("x",)), ("a", ("y",))), kind(("ab",))), (("ab", ("x",)),))

    def test_what_was_handed_in_is_left_as_it_is(self):
        names = ["v", "t"]
        told = part(RING, names)
        self.assertEqual(names, ["v", "t"])
        names.append("u")
        self.assertEqual(told, (RING[0], RING[2]))
        self.assertEqual(part(RING, ["v", "t"]), told)
