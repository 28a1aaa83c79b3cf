import itertools
import random
import unittest

import plain
from mostrows.columnwise import by_columns
from mostrows.houses import answers

RING = (("t", ("a", "b")), ("u", ("b", "c")), ("v", ("c", "a")))
HOUSE = (((0, 0), (0, 1), (1, 0)), ((0, 0), (0, 2), (1, 0)), ((0, 0), (0, 1), (2, 0)))


class ByColumns(unittest.TestCase):
    def test_one_table(self):
        question = (("t", ("a", "b")),)
        house = (((0, 3), (0, 4), (2, 1)),)
        self.assertEqual(by_columns(question, house, ("a", "b")), (house[0], (2, 3), 5))
        self.assertEqual(by_columns(question, house, ("b", "a")), (house[0], (3, 3), 6))

    def test_the_shortest_list_is_walked(self):
        question = (("t", ("a",)), ("u", ("a",)), ("v", ("a",)))
        house = (((1,), (2,), (3,), (4,)), ((2,), (4,), (6,)), ((4,), (5,), (6,), (7,), (8,)))
        self.assertEqual(by_columns(question, house, ("a",)), (((4,),), (1,), 9))

    def test_lists_hold_each_value_once(self):
        question = (("t", ("a", "b")), ("u", ("a", "c")))
        house = (((0, 0), (0, 1), (0, 2), (1, 0)), ((0, 5), (0, 6), (2, 0)))
        told = tuple((0, b, c) for b in range(3) for c in (5, 6))
        self.assertEqual(by_columns(question, house, ("a", "b", "c")), (told, (1, 3, 6), 4 + 3 + 6))
        self.assertEqual(by_columns(question, house, ("c", "b", "a")), (told, (3, 9, 6), 3 + 9 + 18))

    def test_a_ring_by_hand(self):
        told = ((0, 0, 0), (0, 0, 2), (0, 1, 0), (1, 0, 0))
        # a: both lists are (0, 1); b: behind 0 both have (0, 1), behind 1 the shorter one is (0); then c.
        self.assertEqual(by_columns(RING, HOUSE, ("a", "b", "c")), (told, (2, 3, 4), 4 + (4 + 2) + (4 + 2 + 2)))

    def test_levels_go_by_the_order_answers_by_the_question(self):
        question = (("t", ("a",)), ("u", ("b",)))
        house = (((7,), (8,), (9,)), ((1,), (2,)))
        told = ((7, 1), (7, 2), (8, 1), (8, 2), (9, 1), (9, 2))
        self.assertEqual(by_columns(question, house, ("a", "b")), (told, (3, 6), 3 + 6))
        self.assertEqual(by_columns(question, house, ("b", "a")), (told, (2, 6), 2 + 6))

    def test_rows_that_go_no_further(self):
        question = (("t", ("a", "b")), ("u", ("b",)))
        house = (((0, 1), (0, 2), (1, 3)), ((4,), (5,)))
        self.assertEqual(by_columns(question, house, ("a", "b")), ((), (2, 0), 2 + (4 + 2)))
        self.assertEqual(by_columns(question, house, ("b", "a")), ((), (0, 0), 4))

    def test_a_table_without_rows(self):
        for order in itertools.permutations("abc"):
            for empty in range(3):
                house = HOUSE[:empty] + ((),) + HOUSE[empty + 1:]
                self.assertEqual(by_columns(RING, house, order), ((), (0, 0, 0), 0))
        apart = (("t", ("a",)), ("u", ("b",)))
        self.assertEqual(by_columns(apart, (((1,), (2,)), ()), ("a", "b")), ((), (0, 0), 0))

    def test_many_in_every_order(self):
        for question, house in plain.made_houses(43, 25):
            told = answers(question, house)
            columns = plain.slow_columns(question)
            for order in random.Random(1).sample(list(itertools.permutations(columns)), min(12, 2 ** len(columns) // 2)):
                made = by_columns(question, house, order)
                self.assertEqual(made[0], told)
                self.assertEqual(made, plain.slow_by_columns(question, house, order))
                self.assertEqual(by_columns(question, house, order), made)

    def test_just_three_thousand(self):
        question = (("t", ("a",)), ("u", ("b",)), ("v", ("c",)))
        house = (tuple((value,) for value in range(40)), tuple((value,) for value in range(25)), ((0,), (1,), (2,)))
        made = by_columns(question, house, ("c", "b", "a"))
        self.assertEqual(made, (answers(question, house), (3, 75, 3000), 3 + 75 + 3000))
