import itertools
import random
import unittest

import plain
from mostrows.questions import look
from mostrows.rings import is_ring, ring_of

FOUR = plain.ring_of_pairs("abcd")
ROUND = tuple(plain.ring_of_pairs("abcdef"[:size]) for size in (3, 4, 5, 6))
WIDE = tuple(plain.ring_of_all_but_one("abcdef"[:size]) for size in (3, 4, 5))
CHAIN = (("t", ("a", "b")), ("u", ("b", "c")), ("v", ("c", "d")))
BESIDE = (("p", ("f", "b")), ("t", ("a", "b")), ("u", ("b", "c", "e")), ("v", ("c", "d")), ("w", ("d", "a")),
          ("q", ("b",)))


class IsRing(unittest.TestCase):
    def test_pairs_of_neighbours_turned_about_and_the_other_way_round(self):
        for question in ROUND:
            self.assertIs(look(question), True)
            columns = tuple(name for table, (name, other) in question)
            for turn in range(len(columns)):
                turned = columns[turn:] + columns[:turn]
                self.assertIs(is_ring(question, turned), True)
                self.assertIs(is_ring(question, turned[::-1]), True)

    def test_all_but_one_in_any_order(self):
        for question, size in zip(WIDE, (3, 4, 5)):
            self.assertIs(look(question), True)
            for columns in itertools.permutations("abcde"[:size]):
                self.assertIs(is_ring(question, columns), True)

    def test_two_exchanged(self):
        for columns in (("b", "a", "c", "d"), ("a", "c", "b", "d"), ("a", "b", "d", "c"), ("d", "b", "c", "a")):
            self.assertIs(is_ring(FOUR, columns), False)
        self.assertIs(is_ring(ROUND[2], ("a", "b", "d", "c", "e")), False)
        self.assertIs(is_ring(ROUND[3], ("a", "b", "f", "d", "e", "c")), False)

    def test_one_left_out(self):
        for question in ROUND + WIDE:
            columns = tuple(dict.fromkeys(column for table, own in question for column in own))
            for some in itertools.combinations(columns, len(columns) - 1):
                self.assertIs(is_ring(question, some), False)

    def test_one_more(self):
        self.assertIs(is_ring(BESIDE, ("a", "b", "c", "d")), True)
        for other in ("e", "f", "x"):
            for at in range(5):
                columns = ("a", "b", "c", "d")[:at] + (other,) + ("a", "b", "c", "d")[at:]
                self.assertIs(is_ring(BESIDE, columns), False)
        self.assertIs(is_ring(WIDE[0] + (("w", ("c", "d")),), ("a", "b", "c", "d")), False)

    def test_one_twice(self):
        for question in ROUND + WIDE:
            columns = tuple(dict.fromkeys(column for table, own in question for column in own))
            for at in range(len(columns)):
                self.assertIs(is_ring(question, columns[:at] + columns[at:at + 1] + columns[at:]), False)
                self.assertIs(is_ring(question, columns + columns[at:at + 1]), False)
                self.assertIs(is_ring(question, columns[:at] + columns[:1] + columns[at + 1:]), at == 0)
            self.assertIs(is_ring(question, columns + columns), False)

    def test_names_that_are_not_there(self):
        self.assertIs(is_ring(FOUR, ("a", "b", "c", "x")), False)
        self.assertIs(is_ring(FOUR, ("w", "x", "y", "z")), False)
        self.assertIs(is_ring(FOUR, ("t", "u", "v", "w")), False)
        self.assertIs(is_ring(FOUR, ("a", "b", "c", "")), False)
        self.assertIs(is_ring(FOUR, ("", "A b", "7")), False)
        self.assertIs(is_ring(WIDE[0], ("a", "b", "c", "x")), False)
        self.assertIs(is_ring(CHAIN, ("a", "b", "x")), False)

    def test_too_few(self):
        for question in ROUND + WIDE + (CHAIN, (("t", ("a",)), ("u", ("b",)))):
            self.assertIs(is_ring(question, ()), False)
            for columns in (("a",), ("b",), ("x",), ("a", "b"), ("b", "a"), ("a", "a"), ("a", "x")):
                self.assertIs(is_ring(question, columns), False)

    def test_three_that_all_stand_in_one_table(self):
        self.assertIs(is_ring(WIDE[0], ("a", "b", "c")), True)
        for wide in (("a", "b", "c"), ("c", "b", "a"), ("b", "d", "a", "c")):
            question = WIDE[0] + (("w", wide),)
            for columns in itertools.permutations("abc"):
                self.assertIs(is_ring(question, columns), False)
        self.assertIs(is_ring((("t", ("a", "b", "c")),), ("a", "b", "c")), False)

    def test_a_string_across_a_ring(self):
        question = FOUR + (("x", ("a", "c")),)
        self.assertIs(is_ring(question, ("a", "b", "c", "d")), False)
        self.assertIs(is_ring(question, ("a", "b", "c")), True)
        self.assertIs(is_ring(question, ("a", "d", "c")), True)
        self.assertIs(is_ring(question, ("a", "b", "d")), False)

    def test_an_open_row_of_neighbours(self):
        self.assertIs(is_ring(CHAIN, ("a", "b", "c", "d")), False)
        self.assertIs(is_ring(CHAIN, ("a", "b", "c")), False)

    def test_two_rings_of_three_are_none_of_six(self):
        question = plain.ring_of_pairs("abc") + tuple((name, columns) for name, columns in
                                                      zip("wxy", (("d", "e"), ("e", "f"), ("f", "d"))))
        self.assertIs(is_ring(question, ("a", "b", "c", "d", "e", "f")), False)
        self.assertIs(is_ring(question, ("a", "b", "c")), True)
        self.assertIs(is_ring(question, ("e", "d", "f")), True)

    def test_tables_within_others_and_alike_are_of_no_matter(self):
        self.assertIs(is_ring(FOUR + (("x", ("b", "a")), ("y", ("c",))), ("a", "b", "c", "d")), True)
        self.assertIs(is_ring(WIDE[1] + (("x", ("a", "b", "e", "f")), ("y", ("e",))), ("d", "b", "a", "c")), True)
        self.assertIs(is_ring(WIDE[1][:3] + (("x", ("a", "b")),), ("a", "b", "c", "d")), False)

    def test_every_order_of_many_questions(self):
        chance = random.Random(211)
        rings = 0
        for turn in range(40):
            question = plain.made_ringed(chance)
            every = plain.slow_columns(question)
            for size in range(len(every) + 1):
                for columns in itertools.permutations(every, size):
                    expected = plain.slow_is_ring(question, columns)
                    self.assertIs(is_ring(question, columns), expected)
                    rings += expected
        self.assertGreater(rings, 200)


class RingOf(unittest.TestCase):
    def told(self, question):
        columns = ring_of(question)
        self.assertIsInstance(columns, tuple)
        self.assertTrue(plain.slow_is_ring(question, columns), (question, columns))
        self.assertIs(is_ring(question, columns), True)
        self.assertEqual(ring_of(question), columns)
        return columns

    def test_rings_alone(self):
        for question in ROUND + WIDE:
            self.assertEqual(sorted(self.told(question)), sorted(plain.slow_columns(question)))

    def test_rings_whose_tables_and_columns_are_mixed(self):
        chance = random.Random(223)
        for question in ROUND + WIDE:
            for turn in range(20):
                mixed = tuple((name, tuple(chance.sample(columns, len(columns))))
                              for name, columns in chance.sample(question, len(question)))
                self.assertEqual(sorted(self.told(mixed)), sorted(plain.slow_columns(question)))

    def test_rings_beside_other_tables(self):
        self.assertEqual(sorted(self.told(BESIDE)), ["a", "b", "c", "d"])
        self.assertEqual(len(self.told(FOUR + (("x", ("a", "c")),))), 3)
        self.assertEqual(sorted(self.told((("x", ("d", "e", "f")),) + WIDE[0])), ["a", "b", "c"])

    def test_a_ring_whose_first_columns_are_no_neighbours(self):
        opposite = (("p", ("a", "e")), ("q", ("e", "c")))
        self.assertEqual(len(self.told(opposite + FOUR[:3] + (("w", ("d", "a", "f")),))), 4)
        question = (("p", ("a",)), ("q", ("c",))) + FOUR
        self.assertEqual(sorted(self.told(question)), ["a", "b", "c", "d"])
        question = (("x", ("c",)),) + plain.ring_of_pairs("aebdc")
        self.assertEqual(sorted(self.told(question)), ["a", "b", "c", "d", "e"])

    def test_none_where_all_can_be_taken_off(self):
        self.assertIsNone(ring_of((("t", ("a", "b", "c", "d")),)))
        self.assertIsNone(ring_of(CHAIN))
        self.assertIsNone(ring_of(WIDE[0] + (("w", ("c", "d", "a", "b")),)))
        self.assertIsNone(ring_of((("t", ("a",)), ("u", ("b",)), ("v", ("c",)))))
        self.assertIsNone(ring_of((("t", ("a", "b")), ("u", ("b", "a")), ("v", ("a", "b")))))

    def test_none_just_where_all_can_be_taken_off(self):
        chance = random.Random(227)
        for turn in range(300):
            question = plain.made_question(chance)
            if plain.made_ears(chance, question) is None:
                self.told(question)
            else:
                self.assertIsNone(ring_of(question))
            if turn < 40:
                self.assertEqual(ring_of(question) is None, not plain.slow_has_ring(question))
