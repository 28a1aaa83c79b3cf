import random
import unittest
from fractions import Fraction

import plain
from mostrows.covers import cover
from mostrows.worst import worst

RING = (("t", ("a", "b")), ("u", ("b", "c")), ("v", ("c", "a")))
CHAIN = (("t", ("a", "b")), ("u", ("b", "c")), ("v", ("c", "d")), ("w", ("d", "e")))


def slow_worst(question, exponents, tree):
    found = []
    for pair in plain.pairs_in(tree) or [tree]:
        some, powers = plain.slow_part(question, exponents, plain.names_in(pair))
        found.append((cover(some, powers)[0], tuple(name for name, columns in some)))
    greatest = max(Fraction(*price) for price, tables in found)
    return [one for one in found if Fraction(*one[0]) == greatest][0]


class OneTable(unittest.TestCase):
    def test_its_price_and_itself(self):
        for exponent in range(10):
            self.assertEqual(worst((("t", ("a", "b")),), (exponent,), "t"), ((exponent, 1), ("t",)))

    def test_one_of_several(self):
        self.assertEqual(worst(CHAIN, (4, 5, 6, 7), "t"), ((4, 1), ("t",)))
        self.assertEqual(worst(CHAIN, (4, 5, 6, 7), "v"), ((6, 1), ("v",)))
        self.assertEqual(worst(RING, (0, 9, 9), "t"), ((0, 1), ("t",)))


class Worst(unittest.TestCase):
    def test_a_ring(self):
        self.assertEqual(worst(RING, (1, 1, 1), (("t", "u"), "v")), ((2, 1), ("t", "u")))
        self.assertEqual(worst(RING, (1, 1, 1), ("t", ("u", "v"))), ((2, 1), ("u", "v")))
        self.assertEqual(worst(RING, (1, 1, 1), ("u", ("v", "t"))), ((2, 1), ("t", "v")))

    def test_the_whole_may_be_the_greatest(self):
        self.assertEqual(worst(CHAIN, (1, 1, 1, 1), ((("t", "u"), "v"), "w")), ((3, 1), ("t", "u", "v", "w")))
        self.assertEqual(worst((("t", ("a",)), ("u", ("b",))), (2, 3), ("u", "t")), ((5, 1), ("t", "u")))

    def test_a_table_alone_is_no_pair(self):
        question = (("t", ("a",)), ("u", ("a",)), ("v", ("a", "b")))
        self.assertEqual(worst(question, (9, 0, 1), (("t", "u"), "v")), ((1, 1), ("t", "u", "v")))
        self.assertEqual(worst(question[:2], (9, 0), ("t", "u")), ((0, 1), ("t", "u")))

    def test_a_pair_within_may_be_greater_than_the_whole(self):
        question = (("t", ("a", "b")), ("u", ("b", "c")), ("v", ("a", "b", "c")))
        self.assertEqual(worst(question, (1, 1, 1), (("t", "u"), "v")), ((2, 1), ("t", "u")))
        self.assertEqual(worst(question, (1, 1, 1), (("t", "v"), "u")), ((1, 1), ("t", "v")))

    def test_the_first_of_several(self):
        # t and v, and then all four, have the price 2 as well; the first tree's pairs are ahead of the second's.
        question = (("t", ("a",)), ("u", ("a",)), ("v", ("b",)), ("w", ("b",)))
        self.assertEqual(worst(question, (1, 1, 1, 1), (("t", "v"), ("u", "w"))), ((2, 1), ("t", "v")))
        self.assertEqual(worst(question, (1, 1, 1, 1), (("w", "u"), ("t", "v"))), ((2, 1), ("u", "w")))
        self.assertEqual(worst(question, (1, 1, 1, 1), (("t", "u"), ("v", "w"))), ((2, 1), ("t", "u", "v", "w")))
        self.assertEqual(worst(question, (1, 1, 1, 1), (("u", "t"), ("v", "w"))), ((2, 1), ("t", "u", "v", "w")))
        self.assertEqual(worst(question, (1, 1, 1, 1), ("u", (("w", "v"), "t"))), ((2, 1), ("t", "v", "w")))
        self.assertEqual(worst(question, (0, 0, 0, 0), ("u", (("w", "v"), "t"))), ((0, 1), ("v", "w")))

    def test_tables_stand_in_the_questions_order(self):
        question = (("z", ("a",)), ("m", ("b",)), ("b", ("c",)))
        self.assertEqual(worst(question, (1, 1, 1), ("b", ("m", "z"))), ((3, 1), ("z", "m", "b")))
        self.assertEqual(worst(question, (2, 3, 4), ("b", "z")), ((6, 1), ("z", "b")))

    def test_exponents_go_with_their_tables(self):
        question = (("t", ("a",)), ("u", ("b",)), ("v", ("c",)))
        self.assertEqual(worst(question, (1, 2, 5), ("v", "t")), ((6, 1), ("t", "v")))
        self.assertEqual(worst(question, (1, 2, 5), ("u", "t")), ((3, 1), ("t", "u")))
        self.assertEqual(worst(question, (1, 2, 5), ("v", "u")), ((7, 1), ("u", "v")))

    def test_a_tree_of_some_tables_alone(self):
        self.assertEqual(worst(CHAIN, (1, 1, 1, 1), ("w", ("u", "v"))), ((2, 1), ("u", "v")))
        self.assertEqual(worst(CHAIN, (1, 1, 1, 1), ("w", ("t", "u"))), ((3, 1), ("t", "u", "w")))

    def test_fractions_are_looked_at_by_their_size(self):
        # The ring's first pair has the price 6; the ring 9/2, and w's exponent more together with w.
        question = RING + (("w", ("d",)),)
        every = ("t", "u", "v", "w")
        tree = ((("t", "u"), "v"), "w")
        self.assertEqual(worst(question, (3, 3, 3, 1), tree), ((6, 1), ("t", "u")))
        self.assertEqual(worst(question, (3, 3, 3, 2), tree), ((13, 2), every))
        self.assertEqual(worst(question, (1, 1, 1, 1), (("t", "u"), ("v", "w"))), ((5, 2), every))
        self.assertEqual(worst(question, (1, 1, 1, 9), tree), ((21, 2), every))

    def test_many(self):
        chance = random.Random(109)
        fractions = 0
        for turn in range(200):
            question = plain.made_question(chance)
            exponents = plain.made_exponents(chance, question)
            if turn % 4 == 0:
                question = RING + (("w", ("d", "e")), ("x", ("f",)))
                exponents = tuple(chance.randint(4, 9) for table in question)
            names = [name for name, columns in question]
            for tree in (plain.made_tree(chance, names),
                         plain.made_tree(chance, chance.sample(names, chance.randint(1, len(names))))):
                told = worst(question, exponents, tree)
                self.assertEqual(told, slow_worst(question, exponents, tree))
                self.assertIsInstance(told[1], tuple)
                self.assertEqual(worst(question, exponents, tree), told)
                fractions += told[0][1] > 1
        self.assertGreater(fractions, 5)
