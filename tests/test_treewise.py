import random
import unittest

import plain
from mostrows.columnwise import by_columns
from mostrows.houses import answers
from mostrows.treewise import by_tree

RING = (("t", ("a", "b")), ("u", ("b", "c")), ("v", ("c", "a")))
HOUSE = (((0, 0), (0, 1), (1, 0)), ((0, 0), (0, 2), (1, 0)), ((0, 0), (0, 1), (2, 0)))
TOLD = ((0, 0, 0), (0, 0, 2), (0, 1, 0), (1, 0, 0))
CHAIN = (("t", ("a",)), ("u", ("a", "b")), ("v", ("b", "c")), ("w", ("c",)))
LINKS = (((1,), (2,), (3,)), ((1, 5), (1, 6), (2, 5), (4, 7)), ((5, 0), (5, 1), (6, 2), (8, 0)), ((0,), (2,), (3,)))


class OneTable(unittest.TestCase):
    def test_its_rows_and_no_sizes(self):
        rows = ((0, 3), (0, 4), (2, 1))
        self.assertEqual(by_tree((("t", ("b", "a")),), (rows,), "t"), (rows, ()))
        self.assertEqual(by_tree((("table", ("table",)),), (((7,),),), "table"), (((7,),), ()))

    def test_without_rows(self):
        self.assertEqual(by_tree((("t", ("b", "a")),), ((),), "t"), ((), ()))


class ByTree(unittest.TestCase):
    def test_two_tables_either_way_about(self):
        question = (("t", ("b", "a")), ("u", ("c", "b")))
        house = (((0, 3), (1, 2), (1, 4)), ((5, 1), (6, 0), (7, 1), (8, 9)))
        told = ((0, 3, 6), (1, 2, 5), (1, 2, 7), (1, 4, 5), (1, 4, 7))
        self.assertEqual(by_tree(question, house, ("t", "u")), (told, (5,)))
        self.assertEqual(by_tree(question, house, ("u", "t")), (told, (5,)))

    def test_a_ring(self):
        # t and u have 0 in b thrice over, u and v 0 in c: each two have five rows.
        for tree in plain.all_trees(("t", "u", "v")):
            self.assertEqual(by_tree(RING, HOUSE, tree), (TOLD, (5, 4)))

    def test_trees_that_hang_to_either_side(self):
        told = ((1, 5, 0), (1, 6, 2), (2, 5, 0))
        self.assertEqual(by_tree(CHAIN, LINKS, ((("t", "u"), "v"), "w")), (told, (3, 5, 3)))
        self.assertEqual(by_tree(CHAIN, LINKS, ("t", ("u", ("v", "w")))), (told, (3, 3, 3)))
        self.assertEqual(by_tree(CHAIN, LINKS, ("w", ("v", ("u", "t")))), (told, (3, 5, 3)))

    def test_the_first_trees_pairs_are_ahead_of_the_seconds(self):
        told = ((1, 5, 0), (1, 6, 2), (2, 5, 0))
        self.assertEqual(by_tree(CHAIN, LINKS, (("t", "w"), ("u", "v"))), (told, (9, 5, 3)))
        self.assertEqual(by_tree(CHAIN, LINKS, (("v", "u"), ("w", "t"))), (told, (5, 9, 3)))

    def test_a_table_without_rows(self):
        for at, name in enumerate("tuv"):
            house = HOUSE[:at] + ((),) + HOUSE[at + 1:]
            others = tuple(other for other in "tuv" if other != name)
            self.assertEqual(by_tree(RING, house, (others, name)), ((), (5, 0)))
            self.assertEqual(by_tree(RING, house, (name, others)), ((), (5, 0)))
            self.assertEqual(by_tree(RING, house, (others[0], (name, others[1]))), ((), (0, 0)))

    def test_without_a_column_in_common(self):
        question = (("t", ("c",)), ("u", ("b",)), ("v", ("a",)))
        house = (((7,), (8,)), ((1,), (2,), (3,)), ((0,), (5,)))
        told = tuple((c, b, a) for c in (7, 8) for b in (1, 2, 3) for a in (0, 5))
        self.assertEqual(by_tree(question, house, ("v", ("u", "t"))), (told, (6, 12)))
        self.assertEqual(by_tree(question, house, (("v", "t"), "u")), (told, (4, 12)))
        self.assertEqual(by_tree(question, house[:2] + ((),), ("v", ("u", "t"))), ((), (6, 0)))

    def test_tables_and_columns_called_alike(self):
        question = (("a", ("b", "a")), ("b", ("a", "c")), ("c", ("b",)))
        house = (((0, 1), (2, 1)), ((1, 4), (1, 5)), ((2,), (3,)))
        for tree in (("a", ("b", "c")), (("c", "b"), "a")):
            self.assertEqual(by_tree(question, house, tree), (((2, 1, 4), (2, 1, 5)), (4, 2)))

    def test_just_three_thousand(self):
        question = (("t", ("a",)), ("u", ("b",)), ("v", ("c",)))
        house = (tuple((value,) for value in range(40)), tuple((value,) for value in range(25)), ((0,), (1,), (2,)))
        self.assertEqual(by_tree(question, house, ("v", ("u", "t"))), (answers(question, house), (1000, 3000)))


class Many(unittest.TestCase):
    def test_answers_and_sizes_by_several_trees(self):
        chance = random.Random(47)
        for question, house in plain.made_houses(53, 60):
            told = answers(question, house)
            for turn in range(4):
                tree = plain.made_tree(chance, [name for name, columns in question])
                made = by_tree(question, house, tree)
                self.assertEqual(made, plain.slow_by_tree(question, house, tree))
                self.assertEqual(made[0], told)
                self.assertEqual(by_tree(question, house, tree), made)

    def test_the_same_by_every_tree_of_four_as_by_columns(self):
        trees = plain.all_trees(("t", "u", "v", "w"))
        self.assertEqual(len(set(trees)), 120)
        told = by_columns(CHAIN, LINKS, ("b", "c", "a"))[0]
        for tree in trees:
            self.assertEqual(by_tree(CHAIN, LINKS, tree), plain.slow_by_tree(CHAIN, LINKS, tree))
            self.assertEqual(by_tree(CHAIN, LINKS, tree)[0], told)
