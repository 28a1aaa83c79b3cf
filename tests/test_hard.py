import itertools
import unittest

import plain
from mostrows.bounds import looks_fit, most
from mostrows.columnwise import by_columns
from mostrows.hard import hard
from mostrows.houses import answers, is_fit, look_house
from mostrows.questions import columns_of, look
from mostrows.treewise import by_tree

EACH = range(1, 8)


class Hard(unittest.TestCase):
    def test_three_tables_of_two_of_three_columns(self):
        for m in EACH:
            question, house = hard(m)
            self.assertIsInstance(hard(m), tuple)
            self.assertIs(look(question), True)
            self.assertEqual([len(columns) for name, columns in question], [2, 2, 2])
            self.assertEqual(len(columns_of(question)), 3)
            for one, other in itertools.combinations(question, 2):
                self.assertEqual(len(set(one[1]) & set(other[1])), 1)

    def test_rows(self):
        for m in EACH:
            question, house = hard(m)
            self.assertIs(look_house(question, house), True)
            self.assertIs(is_fit(house), True)
            self.assertEqual([len(rows) for rows in house], [2 * m - 1] * 3)

    def test_by_each_tree(self):
        for m in EACH:
            question, house = hard(m)
            trees = plain.all_trees([name for name, columns in question])
            self.assertEqual(len(trees), 12)
            for tree in trees:
                self.assertEqual(by_tree(question, house, tree), (answers(question, house), (m * m + m - 1, 3 * m - 2)))

    def test_by_columns(self):
        for m in EACH:
            question, house = hard(m)
            self.assertEqual(len(answers(question, house)), 3 * m - 2)
            for order in itertools.permutations(columns_of(question)):
                told, levels, looks = by_columns(question, house, order)
                self.assertEqual(len(told), 3 * m - 2)
                self.assertLessEqual(max(levels), 3 * m - 2)
                self.assertIs(looks_fit(question, house, (2, (1, 1, 1)), looks), True)
            self.assertGreaterEqual(most(question, house, (2, (1, 1, 1))), 3 * m - 2)

    def test_asked_again_told_the_same(self):
        for m in EACH:
            self.assertEqual(hard(m), hard(m))
