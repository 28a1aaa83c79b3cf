import random
import unittest
from fractions import Fraction

import plain
from mostrows.besttree import best_tree
from mostrows.trees import is_tree
from mostrows.worst import worst

RING = (("t", ("a", "b")), ("u", ("b", "c")), ("v", ("c", "a")))


class BestTree(unittest.TestCase):
    def told(self, question, exponents):
        made = best_tree(question, exponents)
        self.assertIsInstance(made, tuple)
        self.assertEqual(len(made), 2)
        self.assertIs(is_tree(question, made[0]), True)
        self.assertEqual(worst(question, exponents, made[0])[0], made[1])
        self.assertEqual(best_tree(question, exponents), made)
        return made[1]

    def least(self, question, exponents):
        trees = plain.all_trees([name for name, columns in question])
        return min(Fraction(*worst(question, exponents, tree)[0]) for tree in trees)

    def test_one_table(self):
        for exponent in range(10):
            self.assertEqual(best_tree((("t", ("a", "b")),), (exponent,)), ("t", (exponent, 1)))

    def test_two_tables(self):
        self.assertEqual(self.told(RING[:2], (3, 4)), (7, 1))
        self.assertEqual(self.told((("t", ("a",)), ("u", ("a",))), (9, 0)), (0, 1))

    def test_a_ring(self):
        self.assertEqual(self.told(RING, (1, 1, 1)), (2, 1))
        self.assertEqual(self.told(RING, (0, 0, 0)), (0, 1))
        # t and u first: 1 and 2; the other two pairs come to more.
        self.assertEqual(self.told(RING, (1, 2, 9)), (3, 1))
        self.assertEqual(self.told(RING, (9, 2, 1)), (3, 1))
        self.assertEqual(self.told(RING, (2, 9, 1)), (3, 1))

    def test_a_tree_that_hangs_to_both_sides(self):
        # Any three of these have a column each that the other two lack, and come to 3; any two, and all four, to 2.
        question = (("t", ("a", "b", "c")), ("u", ("a", "d", "e")), ("v", ("b", "d", "f")), ("w", ("c", "e", "f")))
        self.assertEqual(worst(question, (1, 1, 1, 1), ((("t", "u"), "v"), "w"))[0], (3, 1))
        self.assertEqual(self.told(question, (1, 1, 1, 1)), (2, 1))

    def test_six_tables(self):
        ring = tuple((one, (one, other)) for one, other in zip("abcdef", "bcdefa"))
        self.assertEqual(self.told(ring, (1,) * 6), (3, 1))
        self.assertEqual(self.told(ring, (0,) * 6), (0, 1))
        self.assertEqual(self.told(tuple((name, (name,)) for name in "abcdef"), (9,) * 6), (54, 1))
        self.assertEqual(self.told(tuple((name, ("x",)) for name in "abcdef"), (9, 8, 7, 3, 5, 4)), (3, 1))

    def test_of_up_to_four_tables_none_has_a_lesser_price(self):
        chance = random.Random(113)
        sizes = []
        better = 0
        while sizes.count(4) < 25:
            question = plain.made_question(chance)[:4]
            exponents = plain.made_exponents(chance, question)
            price = Fraction(*self.told(question, exponents))
            self.assertEqual(price, self.least(question, exponents))
            tree = plain.made_tree(chance, [name for name, columns in question])
            better += price < Fraction(*worst(question, exponents, tree)[0])
            sizes.append(len(question))
        self.assertEqual(set(sizes), {1, 2, 3, 4})
        self.assertGreater(better, 5)

    def test_of_five_and_six_tables_none_of_some_has_a_lesser_price(self):
        chance = random.Random(127)
        turns = 0
        while turns < 30:
            question = plain.made_question(chance)
            if len(question) < 5:
                continue
            turns += 1
            exponents = plain.made_exponents(chance, question)
            price = Fraction(*self.told(question, exponents))
            for turn in range(30):
                tree = plain.made_tree(chance, [name for name, columns in question])
                self.assertLessEqual(price, Fraction(*worst(question, exponents, tree)[0]))
