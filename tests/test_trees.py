import unittest

from mostrows.trees import is_tree, pairs_of, tables_in

FOUR = (("t", ("a",)), ("u", ("a", "b")), ("v", ("b",)), ("w", ("c",)))
LEFT = ((("t", "u"), "v"), "w")
RIGHT = ("w", ("v", ("u", "t")))
BOTH = (("t", "v"), ("u", "w"))


class TablesIn(unittest.TestCase):
    def test_as_they_stand(self):
        self.assertEqual(tables_in("t"), ("t",))
        self.assertEqual(tables_in(("u", "t")), ("u", "t"))
        self.assertEqual(tables_in(LEFT), ("t", "u", "v", "w"))
        self.assertEqual(tables_in(RIGHT), ("w", "v", "u", "t"))
        self.assertEqual(tables_in(BOTH), ("t", "v", "u", "w"))
        self.assertEqual(tables_in((("t", "t"), ("ab", "t"))), ("t", "t", "ab", "t"))


class PairsOf(unittest.TestCase):
    def test_a_name_alone(self):
        self.assertEqual(pairs_of("t"), [])
        self.assertEqual(pairs_of("tu"), [])

    def test_those_of_the_first_ahead_of_those_of_the_second_ahead_of_itself(self):
        self.assertEqual(pairs_of(("t", "u")), [("t", "u")])
        self.assertEqual(pairs_of(LEFT), [("t", "u"), (("t", "u"), "v"), LEFT])
        self.assertEqual(pairs_of(RIGHT), [("u", "t"), ("v", ("u", "t")), RIGHT])
        self.assertEqual(pairs_of(BOTH), [("t", "v"), ("u", "w"), BOTH])
        deep = ((("a", "b"), ("c", "d")), ("e", "f"))
        self.assertEqual(pairs_of(deep), [("a", "b"), ("c", "d"), deep[0], ("e", "f"), deep])

    def test_the_list_is_the_askers_own(self):
        told = pairs_of(BOTH)
        told.pop()
        told[0] = "x"
        self.assertEqual(pairs_of(BOTH), [("t", "v"), ("u", "w"), BOTH])


class IsTree(unittest.TestCase):
    def test_trees(self):
        for tree in (LEFT, RIGHT, BOTH, ("v", (("w", "t"), "u"))):
            self.assertIs(is_tree(FOUR, tree), True)
        self.assertIs(is_tree(FOUR[:1], "t"), True)
        crossed = (("z", ("a",)), ("m", ("a",)), ("b", ("a",)))
        for tree in (("b", ("m", "z")), (("z", "m"), "b"), ("m", ("z", "b"))):
            self.assertIs(is_tree(crossed, tree), True)

    def test_a_table_left_out(self):
        for tree in ("t", ("t", "u"), (("t", "u"), "v")):
            self.assertIs(is_tree(FOUR, tree), False)

    def test_a_table_twice(self):
        for tree in ((LEFT, "t"), ("w", LEFT), (("t", "u"), ("v", "t")), (LEFT, LEFT)):
            self.assertIs(is_tree(FOUR, tree), False)
        self.assertIs(is_tree(FOUR[:1], ("t", "t")), False)

    def test_a_table_that_is_not_the_questions(self):
        for tree in ((("t", "u"), ("v", "x")), (LEFT, "x"), (LEFT, ""), (LEFT, "a"), (("t", "u"), ("v", "W"))):
            self.assertIs(is_tree(FOUR, tree), False)
        self.assertIs(is_tree(FOUR[:1], ""), False)
        self.assertIs(is_tree(FOUR[:1], "a"), False)
        self.assertIs(is_tree((("tu", ("a",)),), ("t", "u")), False)


class Deep(unittest.TestCase):
    def test_deeper_than_calls_may_go(self):
        left = right = "t"
        for step in range(2000):
            left = (left, "u")
            right = ("u", right)
        self.assertEqual(tables_in(left), ("t",) + ("u",) * 2000)
        self.assertEqual(tables_in(right), ("u",) * 2000 + ("t",))
        self.assertIs(is_tree(FOUR, left), False)
        self.assertIs(pairs_of(left)[-1], left)
        self.assertIs(pairs_of(right)[-1], right)
        self.assertEqual(len(pairs_of(right)), 2000)
        self.assertEqual(pairs_of(right)[0], ("u", "t"))
