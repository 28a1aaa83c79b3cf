import random
import unittest

import plain
from mostrows.agreeing import agree, agreeing
from mostrows.columnwise import by_columns
from mostrows.errors import NoRing
from mostrows.houses import look_house, tables_of
from mostrows.questions import columns_of
from mostrows.rings import ring_of

ROUND = tuple(plain.ring_of_pairs("abcdef"[:size]) for size in (3, 4, 5, 6))
WIDE = tuple(plain.ring_of_all_but_one("abcdef"[:size]) for size in (3, 4, 5))
TWO = (("t", ("a", "b", "c")), ("u", ("d", "c", "b")))
APART = (("t", ("a",)), ("u", ("b",)), ("v", ("c",)))


def slow_agree(question, house):
    for one, rows in zip(question, house):
        for other, other_rows in zip(question, house):
            common = [column for column in one[1] if column in other[1]]
            if plain.slow_cut((one[1], rows), common) != plain.slow_cut((other[1], other_rows), common):
                return False
    return True


class Agree(unittest.TestCase):
    def test_in_another_order(self):
        rows = ((0, 1, 5), (0, 2, 6), (3, 1, 5))
        self.assertIs(agree(TWO, (rows, ((7, 5, 1), (7, 6, 2), (8, 5, 1)))), True)
        self.assertIs(agree(TWO, (rows, ((7, 1, 5), (7, 2, 6)))), False)

    def test_one_row_too_few_on_either_side(self):
        rows = ((0, 1, 5), (0, 2, 6), (3, 1, 5))
        self.assertIs(agree(TWO, (rows, ((7, 5, 1),))), False)
        self.assertIs(agree(TWO, (rows[2:], ((7, 5, 1), (7, 6, 2)))), False)
        self.assertIs(agree(TWO, (rows[1:], ((7, 5, 1), (7, 6, 2)))), True)

    def test_values_alike_column_by_column_do_not_do(self):
        self.assertIs(agree(TWO, (((0, 1, 5), (0, 2, 6)), ((7, 5, 2), (7, 6, 1)))), False)

    def test_without_a_column_in_common(self):
        self.assertIs(agree(APART, (((0,),), ((1,), (2,)), ((3,),))), True)
        self.assertIs(agree(APART, ((), (), ())), True)
        for house in (((), ((1,),), ((3,),)), (((0,),), (), ((3,),)), (((0,),), ((1,),), ()), ((), (), ((3,),))):
            self.assertIs(agree(APART, house), False)

    def test_a_table_without_rows(self):
        self.assertIs(agree(TWO, ((), ())), True)
        self.assertIs(agree(TWO, (((0, 1, 5),), ())), False)
        self.assertIs(agree(TWO, ((), ((7, 5, 1),))), False)

    def test_one_table_alone(self):
        self.assertIs(agree(TWO[:1], ((),)), True)
        self.assertIs(agree(TWO[:1], (((0, 1, 5),),)), True)

    def test_each_two_are_looked_at(self):
        question = (("t", ("a", "b")), ("u", ("b", "c")), ("v", ("c", "a")))
        for lacking in range(3):
            house = [((0, 0), (1, 1))] * 3
            self.assertIs(agree(question, tuple(house)), True)
            house[lacking] = ((0, 0),)
            self.assertIs(agree(question, tuple(house)), False)

    def test_the_ring_agrees_though_there_is_no_answer(self):
        question = (("t", ("a", "b")), ("u", ("b", "c")), ("v", ("c", "a")))
        self.assertIs(agree(question, (((0, 0), (1, 1)), ((0, 0), (1, 1)), ((0, 1), (1, 0)))), True)

    def test_houses_that_are_not_fit(self):
        rows = tuple((one, other) for one in range(8) for other in range(5))
        question = tuple((name, ("a", column)) for name, column in zip("tuvwxy", "bcdefa"[:5]))
        self.assertIs(agree(question, (rows,) * 5), True)
        self.assertIs(agree(question, (rows,) * 4 + (rows[:-5],)), False)
        self.assertIs(agree(question, (rows[5:],) + (rows,) * 4), False)

    def test_many(self):
        chance = random.Random(239)
        agreed = 0
        for question, house in plain.made_houses(241, 300):
            if chance.random() < 0.5:
                house = plain.slow_thinned_house(question, house)
            self.assertIs(agree(question, house), slow_agree(question, house))
            agreed += agree(question, house) and len(question) > 1
        self.assertGreater(agreed, 50)


class Agreeing(unittest.TestCase):
    def told(self, question, ring):
        house = agreeing(question, ring)
        self.assertEqual(agreeing(question, ring), house)
        self.assertIsInstance(house, tuple)
        self.assertIs(look_house(question, house), True)
        self.assertTrue(all(isinstance(rows, tuple) for rows in house))
        for rows in house:
            self.assertTrue(1 <= len(rows) <= 64, question)
            self.assertLessEqual(max(value for row in rows for value in row), 4)
        self.assertTrue(slow_agree(question, house), (question, house))
        self.assertIs(agree(question, house), True)
        self.assertEqual(by_columns(question, house, columns_of(question))[0], ())
        return house

    def test_rings_alone_turned_about_and_the_other_way_round(self):
        for question in ROUND + WIDE:
            ring = ring_of(question)
            for turn in range(len(ring)):
                turned = ring[turn:] + ring[:turn]
                self.told(question, turned)
                self.told(question, turned[::-1])

    def test_no_answer_by_the_slow_look(self):
        for question in ROUND + WIDE[:2]:
            self.assertEqual(plain.slow_answers(question, self.told(question, ring_of(question))), ())

    def test_columns_of_the_tables_in_another_order(self):
        chance = random.Random(251)
        for question in ROUND + WIDE:
            for turn in range(5):
                mixed = tuple((name, tuple(chance.sample(columns, len(columns))))
                              for name, columns in chance.sample(question, len(question)))
                self.told(mixed, ring_of(question))

    def test_tables_beside_the_ring(self):
        beside = (("w", ("d", "e")), ("x", ("a", "d")), ("y", ("c",)))
        self.told(ROUND[0] + beside, ("a", "b", "c"))
        self.told(beside + ROUND[0], ("c", "b", "a"))
        self.told(beside[1:] + ROUND[1], ("b", "c", "d", "a"))
        self.told((("x", ("e", "f")), ("y", ("f", "b", "a"))) + ROUND[1], ("a", "b", "c", "d"))
        self.told(WIDE[1] + (("x", ("a", "b", "e", "f")), ("y", ("d", "c"))), ("a", "b", "c", "d"))
        self.told((("y", ("a", "e", "f")),) + WIDE[2], ("a", "b", "c", "d", "e"))

    def test_tables_of_the_same_set(self):
        self.told(ROUND[0] + (("w", ("b", "a")), ("x", ("d", "a", "b")), ("y", ("c", "b", "f"))), ("a", "b", "c"))
        for ring in (("a", "b", "c", "d"), ("b", "c", "d", "a"), ("c", "b", "a", "d")):
            self.told(ROUND[1] + (("x", ("b", "a")), ("y", ("d", "e", "c"))), ring)
        self.told(WIDE[2] + (("y", ("e", "d", "c", "b")),), ("a", "b", "c", "d", "e"))

    def test_several_rings_in_one_question(self):
        question = ROUND[1] + (("x", ("a", "c")),)
        self.told(question, ("a", "b", "c"))
        self.told(question, ("d", "c", "a"))

    def test_many(self):
        chance = random.Random(257)
        for turn in range(200):
            question = plain.made_ringed(chance)
            self.told(question, ring_of(question))

    def test_what_is_no_ring(self):
        four = ROUND[1]
        for ring in ((), ("a",), ("a", "b"), ("a", "b", "c"), ("a", "c", "b", "d"), ("a", "b", "c", "d", "a"),
                     ("a", "b", "c", "x"), ("a", "b", "c", ""), ("t", "u", "v", "w"), ("a", "a", "b", "c")):
            with self.subTest(ring=ring), self.assertRaises(NoRing):
                agreeing(four, ring)
        for question in (TWO, APART, (("t", ("a", "b", "c")),), ROUND[0] + (("w", ("a", "b", "c")),)):
            with self.subTest(question=question), self.assertRaises(NoRing):
                agreeing(question, ("a", "b", "c"))

    def test_the_house_may_be_handed_on(self):
        question = WIDE[2]
        house = agreeing(question, ("a", "b", "c", "d", "e"))
        self.assertEqual([rows for columns, rows in tables_of(question, house)], list(house))
