import random
import unittest

import plain
from mostrows.ears import ears
from mostrows.errors import NoEars
from mostrows.houses import is_fit, look_house
from mostrows.thinning import thinned

CHAIN = (("t", ("a", "b")), ("u", ("c", "b")), ("v", ("c", "d")))
LINKS = (((0, 1), (0, 2), (3, 1), (4, 9)), ((5, 1), (6, 1), (7, 8), (8, 2)), ((0, 0), (5, 2), (6, 3), (6, 4)))
APART = (("t", ("a",)), ("u", ("b",)), ("v", ("c", "d")))


class Thinned(unittest.TestCase):
    def test_rows_in_no_answer_in_each_table(self):
        kept = (((0, 1), (3, 1)), ((5, 1), (6, 1)), ((5, 2), (6, 3), (6, 4)))
        self.assertEqual(thinned(CHAIN, LINKS), kept)
        self.assertEqual(thinned(CHAIN, kept), kept)

    def test_in_whatever_order_the_tables_stand(self):
        for order in ((0, 1, 2), (0, 2, 1), (1, 0, 2), (1, 2, 0), (2, 0, 1), (2, 1, 0)):
            question = tuple(CHAIN[at] for at in order)
            house = tuple(LINKS[at] for at in order)
            self.assertEqual(thinned(question, house), plain.slow_thinned_house(question, house))

    def test_a_table_without_rows(self):
        for at in range(3):
            self.assertEqual(thinned(CHAIN, LINKS[:at] + ((),) + LINKS[at + 1:]), ((), (), ()))
            house = (((0,),), ((1,), (2,)), ((3, 4),))
            self.assertEqual(thinned(APART, house), house)
            self.assertEqual(thinned(APART, house[:at] + ((),) + house[at + 1:]), ((), (), ()))

    def test_no_answer_though_each_table_has_rows(self):
        house = (((0, 1), (0, 2)), ((5, 1), (6, 3)), ((6, 3), (7, 4)))
        self.assertEqual(plain.slow_answers(CHAIN, house), ())
        self.assertEqual(thinned(CHAIN, house), ((), (), ()))
        self.assertEqual(thinned(CHAIN + (("w", ("e",)),), house + (((1,),),)), ((), (), (), ()))

    def test_one_table_alone(self):
        rows = ((0, 3), (0, 4), (2, 1))
        self.assertEqual(thinned(CHAIN[:1], (rows,)), (rows,))
        self.assertEqual(thinned(CHAIN[:1], ((),)), ((),))

    def test_two_of_the_same_columns(self):
        question = (("t", ("a", "b")), ("u", ("b", "a")), ("v", ("a", "b")))
        house = (((0, 1), (0, 2), (3, 1)), ((1, 0), (1, 3), (2, 1)), ((0, 1), (3, 1), (7, 7)))
        self.assertEqual(thinned(question, house), (((0, 1), (3, 1)), ((1, 0), (1, 3)), ((0, 1), (3, 1))))

    def test_a_triangle_held_by_a_wide_table(self):
        question = plain.ring_of_pairs("abc") + (("w", ("c", "a", "b")),)
        pairs = ((0, 1), (1, 0), (1, 1))
        house = (pairs, pairs, pairs, ((0, 0, 1), (0, 1, 1), (1, 0, 1), (1, 1, 1)))
        self.assertEqual(thinned(question, house), plain.slow_thinned_house(question, house))
        self.assertEqual(thinned(question, house)[3], ((0, 1, 1), (1, 0, 1), (1, 1, 1)))

    def test_many(self):
        chance = random.Random(263)
        lost = 0
        for turn in range(150):
            question = plain.made_eared(chance)
            house = plain.made_house(chance, question)
            told = thinned(question, house)
            self.assertEqual(told, plain.slow_thinned_house(question, house))
            self.assertEqual(thinned(question, house), told)
            self.assertEqual(thinned(question, told), told)
            self.assertIs(look_house(question, told), True)
            lost += told != house and any(told)
        self.assertGreater(lost, 40)


class MoreThanCanBeMade(unittest.TestCase):
    def test_without_a_column_in_common(self):
        question = tuple((name, (name,)) for name in "abcdef")
        house = (tuple((value,) for value in range(40)),) * 6
        self.assertIs(is_fit(house), False)
        self.assertEqual(thinned(question, house), house)
        self.assertEqual(thinned(question, house[:5] + ((),)), ((),) * 6)

    def test_forty_rows_each_in_a_chain_and_a_star(self):
        chance = random.Random(269)
        chain = tuple((name, ("abcdef"[at], "bcdefa"[at])) for at, name in enumerate("tuvwx"))
        star = tuple((name, ("a", column)) for name, column in zip("tuvwx", "bcdef"))
        lost = 0
        for turn in range(6):
            for question in (chain, star):
                every = [(one, other) for one in range(30) for other in range(12)]
                house = tuple(tuple(sorted(chance.sample(every, 40))) for table in question)
                told = thinned(question, house)
                self.assertEqual(thinned(question, told), told)
                for at, (name, columns) in enumerate(question):
                    kept = tuple(row for row in house[at]
                                 if plain.has_answer(question, house, plain.row_as_dict(columns, row)))
                    self.assertEqual(told[at], kept)
                    lost += 0 < len(kept) < 40
        self.assertGreater(lost, 30)


class NoEarsHere(unittest.TestCase):
    def test_where_there_is_a_ring(self):
        for question in (plain.ring_of_pairs("abc"), plain.ring_of_pairs("abcdef"), plain.ring_of_all_but_one("abcd"),
                         plain.ring_of_pairs("abcd") + (("x", ("e",)),)):
            self.assertEqual(ears(question)[0], "ring")
            for house in (tuple(((0,) * len(columns),) for name, columns in question), ((),) * len(question)):
                with self.assertRaises(NoEars):
                    thinned(question, house)

    def test_ahead_of_all_else(self):
        for house in ((), ("x",), (((5, 5), (5, 5)), ((1000, 0),), ())):
            with self.assertRaises(NoEars):
                thinned(plain.ring_of_pairs("abc"), house)
