import random
import unittest

import plain
from mostrows.ears import ears
from mostrows.earwise import by_ears
from mostrows.errors import NoEars
from mostrows.houses import answers

CHAIN = (("t", ("a", "b")), ("u", ("c", "b")), ("v", ("c", "d")))
LINKS = (((0, 1), (0, 2), (3, 1), (4, 9)), ((5, 1), (6, 1), (7, 8), (8, 2)), ((0, 0), (5, 2), (6, 3), (6, 4)))
TOLD = ((0, 1, 5, 2), (0, 1, 6, 3), (0, 1, 6, 4), (3, 1, 5, 2), (3, 1, 6, 3), (3, 1, 6, 4))


def slow_by_ears(question, house, some):
    told = (plain.slow_columns(question), plain.slow_answers(question, house))
    names = [name for name, holder in reversed(some)]
    sizes = []
    for number in range(2, len(names) + 1):
        part = plain.slow_part(question, house, names[:number])[0]
        sizes.append(len(plain.slow_cut(told, plain.slow_columns(part))[1]))
    return (told[1], tuple(sizes))


class ByEars(unittest.TestCase):
    def test_a_chain_in_the_order_in_which_the_tables_are_joined(self):
        self.assertEqual(by_ears(CHAIN, LINKS, [("t", "u"), ("u", "v"), ("v", None)]), (TOLD, (3, 6)))
        self.assertEqual(by_ears(CHAIN, LINKS, [("v", "u"), ("u", "t"), ("t", None)]), (TOLD, (4, 6)))
        self.assertEqual(by_ears(CHAIN, LINKS, [("t", "u"), ("v", "u"), ("u", None)]), (TOLD, (3, 6)))
        self.assertEqual(by_ears(CHAIN, LINKS, [("v", "u"), ("t", "u"), ("u", None)]), (TOLD, (4, 6)))

    def test_one_table(self):
        rows = ((0, 3), (0, 4), (2, 1))
        self.assertEqual(by_ears(CHAIN[:1], (rows,), [("t", None)]), (rows, ()))
        self.assertEqual(by_ears(CHAIN[:1], ((),), [("t", None)]), ((), ()))

    def test_no_answers(self):
        some = [("t", "u"), ("u", "v"), ("v", None)]
        house = (((0, 1), (0, 2)), ((5, 1), (6, 3)), ((6, 3), (7, 4)))
        self.assertEqual(by_ears(CHAIN, house, some), ((), (0, 0)))
        for at in range(3):
            self.assertEqual(by_ears(CHAIN, LINKS[:at] + ((),) + LINKS[at + 1:], some), ((), (0, 0)))

    def test_without_a_column_in_common(self):
        question, house = plain.column_apart(3, 14)
        house = (house[0][:2], house[1], house[2][:3])
        for some, sizes in (([("f", "b"), ("b", "d"), ("d", None)], (42, 84)),
                            ([("d", "f"), ("b", "f"), ("f", None)], (28, 84)),
                            ([("b", "d"), ("d", "f"), ("f", None)], (6, 84))):
            self.assertEqual(by_ears(question, house, some), (answers(question, house), sizes))

    def test_just_three_thousand(self):
        question, house = plain.column_apart(3)
        house = (house[0], house[1][:25], house[2][:3])
        told = by_ears(question, house, ears(question)[1])
        self.assertEqual(told[0], answers(question, house))
        self.assertEqual(told[1][-1], 3000)

    def test_every_list_that_shows_ears(self):
        for question, house in ((CHAIN, LINKS), (CHAIN + (("w", ("a", "c", "b")),),
                                                 LINKS + (((0, 5, 1), (0, 6, 1), (3, 6, 1), (4, 4, 4)),))):
            told = answers(question, house)
            self.assertTrue(told)
            for some in plain.all_ears(dict(question)):
                self.assertEqual(by_ears(question, house, some), slow_by_ears(question, house, some))
                self.assertEqual(by_ears(question, house, some)[0], told)

    def test_many(self):
        chance = random.Random(349)
        some_answers = 0
        for turn in range(120):
            question = plain.made_eared(chance)
            house = plain.made_house(chance, question)
            for some in (ears(question)[1], plain.made_ears(chance, question)):
                kept = list(some)
                told = by_ears(question, house, some)
                self.assertEqual(told, slow_by_ears(question, house, some))
                self.assertEqual(told[0], answers(question, house))
                self.assertLessEqual(max(told[1], default=0), len(told[0]))
                self.assertEqual(len(told[1]), len(question) - 1)
                self.assertEqual(some, kept)
                self.assertEqual(by_ears(question, house, some), told)
            some_answers += len(told[0]) > 1
        self.assertGreater(some_answers, 40)


class NoEarsHere(unittest.TestCase):
    def no(self, question, house, some):
        with self.assertRaises(NoEars):
            by_ears(question, house, some)

    def test_lists_that_show_none(self):
        for some in ([], [("t", "u")], [("t", "v"), ("u", "v"), ("v", None)], [("v", None), ("u", "v"), ("t", "u")],
                     [("t", "u"), ("u", "v"), ("v", "t")], [("t", None), ("u", None), ("v", None)],
                     [("t", "u"), ("u", "v"), ("v", None), ("v", None)], [("x", "u"), ("u", "v"), ("v", None)],
                     [("u", "v"), ("t", "u"), ("v", None)], [("t", "u"), ("v", None)]):
            for house in (LINKS, ((), (), ())):
                self.no(CHAIN, house, some)

    def test_where_there_is_a_ring(self):
        for question in plain.ALL_RINGS:
            names = [name for name, columns in question]
            some = list(zip(names, names[1:] + [None]))
            for house in (plain.house_of_noughts(question), ((),) * len(question)):
                self.no(question, house, some)
                self.no(question, house, [])
