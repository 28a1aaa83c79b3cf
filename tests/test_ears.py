import random
import unittest

import plain
from mostrows.ears import ears, ears_show
from mostrows.questions import look

RING = plain.ring_of_pairs("abc")
ROUND = tuple(plain.ring_of_pairs("abcdef"[:size]) for size in (3, 4, 5, 6))
WIDE = tuple(plain.ring_of_all_but_one("abcdef"[:size]) for size in (3, 4, 5))
CHAIN = (("t", ("a", "b")), ("u", ("b", "c")), ("v", ("c", "d")))
STAR = (("t", ("a", "b")), ("u", ("a", "c")), ("v", ("a", "d")), ("w", ("d", "e", "a")), ("x", ("f",)), ("y", ("b",)))
APART = (("t", ("a",)), ("u", ("b", "c")), ("v", ("d",)))
CHAIN_EARS = [("t", "u"), ("u", "v"), ("v", None)]


class EarsTold(unittest.TestCase):
    def told(self, question):
        self.assertIs(look(question), True)
        made = ears(question)
        self.assertIsInstance(made, tuple)
        self.assertEqual(len(made), 2)
        self.assertEqual(ears(question), made)
        if made[0] == "ears":
            self.assertIsInstance(made[1], list)
            self.assertTrue(all(isinstance(pair, tuple) for pair in made[1]))
            self.assertTrue(plain.slow_ears_show(question, made[1]), (question, made))
            self.assertIs(ears_show(question, made[1]), True)
        else:
            self.assertEqual(made[0], "ring")
            self.assertIsInstance(made[1], tuple)
            self.assertTrue(plain.slow_is_ring(question, made[1]), (question, made))
        return made[0]

    def test_one_table_alone(self):
        self.assertEqual(ears((("t", ("a", "b")),)), ("ears", [("t", None)]))
        self.assertEqual(ears((("table", ("table",)),)), ("ears", [("table", None)]))

    def test_without_a_column_in_common(self):
        self.assertEqual(self.told(APART), "ears")
        self.assertEqual(self.told(tuple((name, (name,)) for name in "abcdef")), "ears")

    def test_two_of_the_same_columns(self):
        self.assertEqual(self.told((("t", ("a", "b")), ("u", ("b", "a")))), "ears")
        self.assertEqual(self.told((("t", ("a", "b")), ("u", ("a", "b")), ("v", ("b", "c")))), "ears")

    def test_within_another(self):
        self.assertEqual(self.told((("t", ("b",)), ("u", ("a", "b", "c")))), "ears")
        self.assertEqual(self.told((("t", ("a", "b", "c")), ("u", ("c", "a")))), "ears")
        self.assertEqual(self.told(RING + (("w", ("b", "c", "a")),)), "ears")
        self.assertEqual(self.told((("w", ("d", "b", "c", "a")),) + RING), "ears")

    def test_chains_and_stars(self):
        self.assertEqual(self.told(CHAIN), "ears")
        self.assertEqual(self.told(STAR), "ears")
        self.assertEqual(self.told(CHAIN[1:] + CHAIN[:1]), "ears")
        self.assertEqual(self.told(tuple((name, ("abcdef"[at], "bcdefg"[at])) for at, name in enumerate("tuvwx"))),
                         "ears")

    def test_rings(self):
        for question in ROUND + WIDE:
            self.assertEqual(self.told(question), "ring")

    def test_rings_beside_tables_that_can_be_taken_off(self):
        self.assertEqual(self.told((("w", ("d", "a")),) + RING + (("x", ("e",)), ("y", ("b",)))), "ring")
        self.assertEqual(self.told(ROUND[1] + (("x", ("a", "b")), ("y", ("e", "f", "c")))), "ring")
        self.assertEqual(self.told((("x", ("d", "e", "f")), ("y", ("a", "b"))) + WIDE[1]), "ring")

    def test_tables_and_columns_called_alike(self):
        self.assertEqual(self.told((("a", ("b", "c")), ("b", ("c", "a")), ("c", ("c",)))), "ears")
        self.assertEqual(self.told((("a", ("a", "b")), ("b", ("b", "c")), ("c", ("c", "a")))), "ring")

    def test_many(self):
        chance = random.Random(229)
        kinds = {"ears": 0, "ring": 0}
        for turn in range(300):
            question = plain.made_ringed(chance) if turn % 3 == 0 else plain.made_question(chance)
            kind = self.told(question)
            self.assertEqual(kind == "ears", plain.made_ears(chance, question) is not None)
            kinds[kind] += 1
        self.assertGreater(min(kinds.values()), 90)

    def test_the_list_is_the_askers_own(self):
        kept = list(ears(STAR)[1])
        told = ears(STAR)[1]
        told.pop()
        told[0] = ("x", "x")
        self.assertEqual(ears(STAR), ("ears", kept))


class EarsShow(unittest.TestCase):
    def no(self, question, some):
        kept = list(some)
        self.assertFalse(plain.slow_ears_show(question, some))
        self.assertIs(ears_show(question, some), False)
        self.assertEqual(some, kept)

    def test_every_order_by_which_they_can_be_taken_off(self):
        for question in (CHAIN, APART, RING + (("w", ("b", "c", "a")),), STAR[:4],
                         (("t", ("a", "b")), ("u", ("a", "b")), ("v", ("b", "c")))):
            every = plain.all_ears(dict(question))
            self.assertGreater(len(every), 3)
            for some in every:
                self.assertIs(ears_show(question, some), True)

    def test_one_table(self):
        one = (("t", ("a", "b")),)
        self.assertIs(ears_show(one, [("t", None)]), True)
        for some in ([], [("t", "t")], [("u", None)], [("t", None), ("t", None)], [("t", "a")], [("t", "")]):
            self.no(one, some)

    def test_without_pairs(self):
        self.no(CHAIN, [])
        self.no(RING, [])

    def test_a_pair_left_out(self):
        for at in range(3):
            self.no(CHAIN, CHAIN_EARS[:at] + CHAIN_EARS[at + 1:])

    def test_a_pair_twice(self):
        for at in range(3):
            self.no(CHAIN, CHAIN_EARS[:at + 1] + CHAIN_EARS[at:])
            self.no(CHAIN, CHAIN_EARS + [CHAIN_EARS[at]])

    def test_two_exchanged(self):
        self.no(CHAIN, [("u", "v"), ("t", "u"), ("v", None)])
        self.no(CHAIN, [("t", "u"), ("v", None), ("u", "v")])
        self.no(CHAIN, [("v", None), ("u", "v"), ("t", "u")])

    def test_another_holder(self):
        self.no(CHAIN, [("t", "v"), ("u", "v"), ("v", None)])
        self.no(CHAIN, [("v", "t"), ("u", "t"), ("t", None)])
        self.assertIs(ears_show(CHAIN, [("v", "u"), ("u", "t"), ("t", None)]), True)

    def test_none_too_early(self):
        self.no(CHAIN, [("t", None), ("u", "v"), ("v", None)])
        self.no(CHAIN, [("t", "u"), ("u", None), ("v", None)])
        self.no(APART, [("t", None), ("u", None), ("v", None)])

    def test_the_last_one_with_a_holder(self):
        for holder in ("t", "u", "v", "x", ""):
            self.no(CHAIN, CHAIN_EARS[:2] + [("v", holder)])

    def test_a_holder_that_is_already_taken_off(self):
        self.no(CHAIN, [("t", "u"), ("v", "t"), ("u", None)])
        self.no(CHAIN, [("t", "u"), ("u", "t"), ("v", None)])
        self.no(APART, [("t", "u"), ("u", "t"), ("v", None)])

    def test_itself_as_a_holder(self):
        self.no(CHAIN, [("t", "t"), ("u", "v"), ("v", None)])
        self.no(CHAIN, [("t", "u"), ("u", "u"), ("v", None)])
        self.no(APART, [("t", "t"), ("u", "v"), ("v", None)])

    def test_names_that_are_not_there(self):
        self.no(CHAIN, [("x", "u"), ("u", "v"), ("v", None)])
        self.no(CHAIN, [("t", "x"), ("u", "v"), ("v", None)])
        self.no(CHAIN, [("t", "u"), ("u", "v"), ("x", None)])
        self.no(CHAIN, [("", ""), ("u", "v"), ("v", None)])
        self.no(CHAIN, [("a", "b"), ("u", "v"), ("v", None)])
        self.no(APART, [("t", "x"), ("u", "v"), ("v", None)])

    def test_a_ring(self):
        names = ("t", "u", "v")
        for one in names:
            for other in names:
                for third in names:
                    for holder in names:
                        self.no(RING, [(one, holder), (other, third), (third, None)])

    def test_lists_changed_a_little(self):
        chance = random.Random(233)
        shown = 0
        for turn in range(1500):
            question = plain.made_eared(chance)
            some = plain.made_ears(chance, question)
            self.assertIs(ears_show(question, some), True)
            at = chance.randrange(len(some))
            other = chance.randrange(len(some))
            names = [name for name, holder in some] + [None]
            changed = list(some)
            if turn % 3 == 0:
                changed[at] = (some[at][0], chance.choice(names))
            elif turn % 3 == 1:
                changed[at], changed[other] = changed[other], changed[at]
            else:
                changed[at] = (chance.choice(names[:-1]), some[at][1])
            self.assertIs(ears_show(question, changed), plain.slow_ears_show(question, changed))
            shown += changed != some and ears_show(question, changed)
        self.assertGreater(shown, 50)
