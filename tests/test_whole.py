"""What the document promises over the whole program: answers the same in every way, bounds kept, nothing changed."""

import copy
import itertools
import random
import unittest

import plain
from mostrows.agreeing import agree, agreeing
from mostrows.apart import apart, together
from mostrows.bounds import looks_fit, most
from mostrows.columnwise import by_columns
from mostrows.counting import how_many, through
from mostrows.covers import cover, cover_shows
from mostrows.desk import answered
from mostrows.ears import ears, ears_show
from mostrows.earwise import by_ears
from mostrows.houses import answers, house_part, is_answer, tables_of
from mostrows.places import answer_at, place_of, shown
from mostrows.questions import columns_of, having, part
from mostrows.rings import is_ring
from mostrows.tables import cut, look_table, table_of, values_in
from mostrows.texts import read, show
from mostrows.thinning import thinned
from mostrows.trees import pairs_of
from mostrows.treewise import by_tree

QUESTION = (("t", ("a", "b")), ("u", ("b", "c")), ("v", ("c", "d")))
HOUSE = (((0, 0), (0, 1), (1, 0)), ((0, 2), (1, 3)), ((2, 2), (3, 0), (3, 1)))


class EveryWay(unittest.TestCase):
    def test_the_same_answers(self):
        chance = random.Random(397)
        eared = 0
        for question, house in plain.made_houses(401, 60):
            told = plain.slow_answers(question, house)
            columns = plain.slow_columns(question)
            names = [name for name, own in question]
            self.assertEqual(answers(question, house), told)
            orders = list(itertools.permutations(columns))
            for order in chance.sample(orders, min(len(orders), 4)):
                self.assertEqual(by_columns(question, house, order)[0], told)
            for turn in range(4):
                self.assertEqual(by_tree(question, house, plain.made_tree(chance, names))[0], told)
            self.assertIs(look_table((columns, told)), True)
            self.assertTrue(all(is_answer(question, house, row) for row in told))
            if plain.made_ears(chance, question) is not None:
                eared += 1
                self.along_the_ears(chance, question, house, told)
        self.assertGreater(eared, 20)

    def along_the_ears(self, chance, question, house, told):
        for turn in range(4):
            made = by_ears(question, house, plain.made_ears(chance, question))
            self.assertEqual(made[0], told)
            self.assertLessEqual(max(made[1], default=0), len(told))
        self.assertEqual(how_many(question, house), len(told))
        for k in range(0, len(told), 1 + len(told) // 5):
            self.assertEqual(answer_at(question, house, k), told[k])
            self.assertEqual(place_of(question, house, told[k]), k)
        made = thinned(question, house)
        self.assertEqual(answers(question, made), told)
        whole = (columns_of(question), told)
        self.assertEqual([cut(whole, columns)[1] for name, columns in question], list(made))
        self.assertEqual([tuple(number for number in numbers if number) for numbers in through(question, house)],
                         list(through(question, made)))

    def test_bounds(self):
        chance = random.Random(409)
        for question, house in plain.made_houses(419, 60):
            told = answers(question, house)
            exponents = plain.made_exponents(chance, question)
            made = cover(question, exponents)
            self.assertIs(cover_shows(question, exponents, made), True)
            order = tuple(chance.sample(plain.slow_columns(question), len(plain.slow_columns(question))))
            for shares in (made[1], plain.made_cover(chance, question)):
                self.assertLessEqual(len(told), most(question, house, shares))
                self.assertIs(looks_fit(question, house, shares, by_columns(question, house, order)[2]), True)

    def test_a_ring_and_a_house_by_it_or_ears(self):
        chance = random.Random(421)
        for turn in range(100):
            question = plain.made_ringed(chance) if turn % 2 else plain.made_question(chance)
            kind, told = ears(question)
            if kind == "ears":
                self.assertIs(ears_show(question, told), True)
                continue
            self.assertIs(is_ring(question, told), True)
            house = agreeing(question, told)
            self.assertIs(agree(question, house), True)
            # Handed on, whatever its size.
            names = [name for name, columns in question]
            self.assertEqual(answers(question, house), ())
            self.assertEqual(by_columns(question, house, columns_of(question))[0], ())
            self.assertEqual(by_tree(question, house, plain.made_tree(chance, names))[0], ())
            self.assertEqual(read(show(question, house)), (question, house))

    def test_answers_handed_on_as_a_table(self):
        question, house = plain.column_apart(3)
        house = (house[0], house[1][:25], house[2][:3])
        table = (columns_of(question), answers(question, house))
        self.assertEqual(len(table[1]), 3000)
        self.assertIs(look_table(table), True)
        self.assertEqual(together(table, (("f",), ("b",), ("d",))), ("same",))
        self.assertEqual(table_of(table[0], reversed(table[1])), table)


class NothingChanged(unittest.TestCase):
    def test_what_is_handed_in(self):
        some = [("t", "u"), ("u", "v"), ("v", None)]
        names = ["v", "t"]
        rows = [(3, 1), (0, 2), (3, 1)]
        kept = copy.deepcopy((some, names, rows))
        ears_show(QUESTION, some)
        by_ears(QUESTION, HOUSE, some)
        part(QUESTION, names)
        house_part(QUESTION, HOUSE, names)
        table_of(("a", "b"), rows)
        self.assertEqual((some, names, rows), kept)

    def test_what_is_told_is_the_askers_own(self):
        asked = (lambda: ears(QUESTION)[1], lambda: tables_of(QUESTION, HOUSE), lambda: having(QUESTION, "b"),
                 lambda: values_in((("a", "b"), HOUSE[0]), "a"), lambda: pairs_of((("t", "u"), "v")),
                 lambda: apart((("a", "b"), HOUSE[0]), (("a",), ("b",))))
        for ask in asked:
            told = ask()
            kept = list(told)
            self.assertIsInstance(told, list)
            self.assertTrue(told)
            told[0] = None
            told.append("x")
            self.assertEqual(ask(), kept)

    def test_what_is_done_later_to_what_was_handed_in(self):
        rows = [(3, 1), (0, 2)]
        some = [("t", "u"), ("u", "v"), ("v", None)]
        table = table_of(("a", "b"), rows)
        told = by_ears(QUESTION, HOUSE, some)
        rows.append((9, 9))
        some.clear()
        self.assertEqual(table, (("a", "b"), ((0, 2), (3, 1))))
        self.assertEqual(told, by_ears(QUESTION, HOUSE, [("t", "u"), ("u", "v"), ("v", None)]))

    def test_asked_again_in_between_other_things(self):
        asked = (lambda: ears(QUESTION), lambda: thinned(QUESTION, HOUSE), lambda: through(QUESTION, HOUSE),
                 lambda: answer_at(QUESTION, HOUSE, 2), lambda: shown(QUESTION, HOUSE, "u", (1, 3)),
                 lambda: answered(show(QUESTION, HOUSE), "answers"), lambda: cover(QUESTION, (1, 2, 3)))
        first = [ask() for ask in asked]
        for question, house in plain.made_houses(431, 10):
            ears(question)
            answered(show(question, house), "answers")
        self.assertEqual([ask() for ask in reversed(asked)], first[::-1])
