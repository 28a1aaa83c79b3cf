import random
import unittest

import plain
from mostrows.columnwise import by_columns
from mostrows.covers import cover
from mostrows.desk import answered
from mostrows.errors import BadHouse, NoAnswer, NoEars, NoRow, NoText
from mostrows.texts import show, show_tree
from mostrows.treewise import by_tree
from mostrows.worst import worst

CHAIN = "table t a b\n0 1\n0 2\n3 1\n4 9\ntable u c b\n5 1\n6 1\n7 8\n8 2\ntable v c d\n0 0\n5 2\n6 3\n6 4"
RING = "table t a b\n0 0\n0 1\n1 0\ntable u b c\n0 0\n0 2\n1 0\ntable v c a\n0 0\n0 1\n2 0"
ONE = "table t b a\n7 0\n8 999"
BARE = "table t a b\ntable u b\n1"
GREAT = show(*plain.column_apart(6))
GREAT_RING = show(plain.ring_of_pairs("abc"), (tuple((one, other) for one in range(5) for other in range(8)),) * 3)


class Desk(unittest.TestCase):
    def says(self, text, row, told):
        self.assertEqual(answered(text, row), told)
        self.assertEqual(answered(text, row), told)

    def refused(self, kind, text, *rows):
        for row in rows:
            with self.subTest(row=row), self.assertRaises(kind):
                answered(text, row)


class Answered(Desk):
    def test_answers(self):
        self.says(CHAIN, "answers", "0 1 5 2\n0 1 6 3\n0 1 6 4\n3 1 5 2\n3 1 6 3\n3 1 6 4")
        self.says(RING, "answers", "0 0 0\n0 0 2\n0 1 0\n1 0 0")
        self.says(ONE, "answers", "7 0\n8 999")
        self.says("table t b a\n7 0", "answers", "7 0")
        self.says("table t b\n7", "answers", "7")
        self.says(BARE, "answers", "none")
        self.says("table t a\n1\ntable u a\n2", "answers", "none")

    def test_columns(self):
        self.says("table t a b\n0 0\n0 1\n1 0\ntable u b c\n0 2\n1 3", "columns b a c", "levels 2 3 3 looks 10")
        self.says(ONE, "columns b a", "levels 2 2 looks 4")
        self.says(ONE, "columns a b", "levels 2 2 looks 4")
        self.says("table t b\n7", "columns b", "levels 1 looks 1")
        self.says(BARE, "columns a b", "levels 0 0 looks 0")

    def test_tree(self):
        self.says(RING, "tree ((t u) v)", "sizes 5 4")
        self.says(RING, "tree (v (u t))", "sizes 5 4")
        self.says(CHAIN, "tree ((t v) u)", "sizes 16 6")
        self.says(ONE, "tree t", "sizes")
        self.says(BARE, "tree (t u)", "sizes 0")

    def test_cover(self):
        self.says(RING, "cover 1 1 1", "price 3/2")
        self.says(RING, "cover 0 0 0", "price 0/1")
        self.says(RING, "cover 9 9 9", "price 27/2")
        self.says(ONE, "cover 9", "price 9/1")
        self.says(CHAIN, "cover 1 2 3", "price 4/1")
        self.says(BARE, "cover 2 5", "price 2/1")

    def test_worst(self):
        self.says(RING, "worst ((t u) v) 1 1 1", "price 2/1 t u")
        self.says(RING, "worst (t (v u)) 1 1 1", "price 2/1 u v")
        self.says(RING, "worst (t (v u)) 9 0 0", "price 0/1 u v")
        self.says(ONE, "worst t 7", "price 7/1 t")
        self.says(RING + "\ntable w d", "worst (((t u) v) w) 1 1 1 1", "price 5/2 t u v w")
        self.says(RING + "\ntable w d", "worst ((t u) (v w)) 0 0 0 9", "price 9/1 v w")

    def test_ears(self):
        self.says(CHAIN, "ears", "yes")
        self.says(ONE, "ears", "yes")
        self.says(RING, "ears", "no")
        self.says(BARE, "ears", "yes")

    def test_count(self):
        self.says(CHAIN, "count", "6")
        self.says(ONE, "count", "2")
        self.says("table t a\n1\ntable u a\n1\n2", "count", "1")
        self.says(BARE, "count", "0")

    def test_at(self):
        self.says(CHAIN, "at 0", "0 1 5 2")
        self.says(CHAIN, "at 5", "3 1 6 4")
        self.says(ONE, "at 1", "8 999")
        self.says("table t b\n7", "at 0", "7")

    def test_place(self):
        self.says(CHAIN, "place 0 1 5 2", "0")
        self.says(CHAIN, "place 3 1 6 4", "5")
        self.says(CHAIN, "place 1 0 0 0", "3")
        self.says(CHAIN, "place 999 999 999 999", "6")
        self.says(ONE, "place 8 0", "1")
        self.says(BARE, "place 999 999", "0")

    def test_tables_and_columns_called_like_the_desks_words(self):
        text = "table at count tree\n1 2\ntable count tree\n2\n3\ntable tree at\n5"
        self.says(text, "columns tree at count", "levels 1 1 1 looks 4")
        self.says(text, "tree ((at count) tree)", "sizes 1 1")
        self.says(text, "worst (tree (count at)) 1 1 1", "price 2/1 at count tree")
        self.says(text, "answers", "1 2 5")
        self.says(text, "at 0", "1 2 5")

    def test_many(self):
        chance = random.Random(383)
        for question, house in plain.made_houses(389, 80):
            text = show(question, house)
            names = [name for name, columns in question]
            columns = plain.slow_columns(question)
            told = plain.slow_answers(question, house)
            self.says(text, "answers", "\n".join(" ".join(map(str, row)) for row in told) or "none")
            order = tuple(chance.sample(columns, len(columns)))
            made = by_columns(question, house, order)
            self.says(text, "columns " + " ".join(order), f"levels {' '.join(map(str, made[1]))} looks {made[2]}")
            tree = plain.made_tree(chance, names)
            sizes = by_tree(question, house, tree)[1]
            self.says(text, "tree " + show_tree(tree), " ".join(["sizes"] + [str(size) for size in sizes]))
            exponents = plain.made_exponents(chance, question)
            numbers = " ".join(map(str, exponents))
            top, bottom = cover(question, exponents)[0]
            self.says(text, "cover " + numbers, f"price {top}/{bottom}")
            (top, bottom), tables = worst(question, exponents, tree)
            self.says(text, f"worst {show_tree(tree)} {numbers}", f"price {top}/{bottom} {' '.join(tables)}")
            row = tuple(chance.randrange(4) for column in columns)
            place = "place " + " ".join(map(str, row))
            if plain.made_ears(chance, question) is None:
                self.says(text, "ears", "no")
                self.refused(NoEars, text, "count", "at 0", "at 999999999999", place)
                continue
            self.says(text, "ears", "yes")
            self.says(text, "count", str(len(told)))
            self.says(text, place, str(sum(one < row for one in told)))
            if told:
                k = chance.randrange(len(told))
                self.says(text, f"at {k}", " ".join(map(str, told[k])))
            self.refused(NoAnswer, text, f"at {len(told)}", "at 999999999999")


class TheTextFirst(Desk):
    def test_wrong_texts(self):
        for text, row in (("", 0), ("table t a\n1\n1", 2), ("1", 0), (CHAIN + "\n", 15)):
            for asked in ("answers", "count", "", "x", "at", "columns a a", "at 999999999999"):
                with self.assertRaises(NoText) as caught:
                    answered(text, asked)
                self.assertEqual(caught.exception.row, row)


class NoSuchRow(Desk):
    def test_unknown_words(self):
        for text in (CHAIN, RING, GREAT, GREAT_RING):
            self.refused(NoRow, text, "", " ", "x", "answer", "Answers", "answersx", "table t a", "t", "price 1/1",
                         "none", "yes", "0", "levels", "sizes", "best", "through", "answers\n", "\nanswers", "answers,")

    def test_words_too_many_or_too_few(self):
        for text in (CHAIN, RING, GREAT_RING):
            self.refused(NoRow, text, "answers x", "answers 0", "answers answers", "ears x", "ears 0", "count 1",
                         "count x", "columns", "tree", "cover", "worst", "at", "place", "at 0 0", "at 0 x", "cover 1 1",
                         "cover 1 1 1 1", "worst ((t u) v)", "worst ((t u) v) 1 1", "worst ((t u) v) 1 1 1 1",
                         "worst 1 1 1", "worst 1 1 1 ((t u) v)", "place 1", "place 1 1 1 1 1", "place 1 1",
                         "worst ((t u) v) x 1 1", "tree ((t u) v) t", "tree ((t u) v) 1", "worst", "worst 1")
        self.refused(NoRow, CHAIN, "place 1 1 1")
        self.refused(NoRow, RING, "place 1 1 1 1")
        self.refused(NoRow, ONE, "cover", "cover 1 1", "worst t", "worst t 1 1", "worst 1", "place 1", "place 1 1 1")

    def test_blanks(self):
        for row in ("answers", "columns a b c d", "tree ((t u) v)", "cover 1 1 1", "worst ((t u) v) 1 1 1", "ears",
                    "count", "at 0", "place 0 0 0 0"):
            answered(CHAIN, row)
            self.refused(NoRow, CHAIN, " " + row, row + " ", row + "\n")
            if " " in row:
                self.refused(NoRow, CHAIN, row.replace(" ", "  "), row.replace(" ", "  ", 1), row.replace(" ", "\n", 1))

    def test_orders(self):
        for text in (CHAIN, GREAT):
            self.refused(NoRow, text, "columns a", "columns a b c", "columns a b c a", "columns a b c d d",
                         "columns a b c x", "columns a b c d x", "columns t u v", "columns a b c D", "columns a,b,c,d")
        self.refused(NoRow, GREAT, "columns a b c d e", "columns a b c d e e", "columns a b c d e f a")
        self.refused(NoRow, ONE, "columns a", "columns b", "columns a a", "columns t", "columns a b a")

    def test_trees(self):
        trees = ("t", "(t u)", "((t u) t)", "((t u) (v t))", "((t u) x)", "(((t u) v) x)", "((t u) v", "(t u) v",
                 "(t u v)", "((t u)v)", "((t u) a)", "((t u) V)", "()", "t u v", "(((t u) v))", "((t  u) v)")
        for text in (CHAIN, GREAT_RING):
            for tree in trees:
                self.refused(NoRow, text, "tree " + tree, f"worst {tree} 1 1 1")
        self.refused(NoRow, ONE, "tree (t t)", "tree (t)", "tree u", "tree T", "worst u 1", "worst (t t) 1", "tree b")

    def test_very_deep_trees(self):
        tree = "(" * 1500 + "t" + " u)" * 1500
        self.refused(NoRow, CHAIN, "tree " + tree, f"worst {tree} 1 1 1", "tree " + "(" * 4000)

    def test_numbers(self):
        for word in ("00", "01", "-1", "+1", "x", "1.0", "1/1", "1_0", "", "0x1", "1e1", "9" * 5000):
            for text in (CHAIN, GREAT_RING):
                self.refused(NoRow, text, f"at {word}", f"cover 1 {word} 1", f"cover {word} 1 1", f"cover 1 1 {word}",
                             f"worst ((t u) v) 1 1 {word}", f"worst ((t u) v) {word} 1 1")
            self.refused(NoRow, CHAIN, f"place 0 0 0 {word}", f"place {word} 0 0 0")
            self.refused(NoRow, RING, f"place 0 0 {word}", f"place {word} 0 0")

    def test_exponents_above_9(self):
        self.refused(NoRow, CHAIN, "cover 10 1 1", "cover 1 1 10", "cover 1 99 1", "worst ((t u) v) 10 1 1",
                     "worst ((t u) v) 1 1 10", "cover 1 1 100")
        self.says(CHAIN, "cover 9 9 9", "price 18/1")

    def test_values_above_999(self):
        self.refused(NoRow, CHAIN, "place 1000 0 0 0", "place 0 0 0 1000", "place 0 9999 0 0")
        self.says(CHAIN, "place 999 0 0 0", "6")

    def test_places_of_more_than_twelve_figures(self):
        self.refused(NoRow, CHAIN, "at 1000000000000", "at 9999999999999", "at " + "1" * 100)
        self.refused(NoAnswer, CHAIN, "at 999999999999", "at 100000000000")


class NotFit(Desk):
    def bad(self, text, *rows):
        for row in rows:
            with self.subTest(row=row), self.assertRaises(BadHouse) as caught:
                answered(text, row)
            self.assertEqual(caught.exception.table, "")

    def test_answers_columns_and_tree(self):
        self.bad(GREAT, "answers", "columns a b c d e f", "tree (((((a b) c) d) e) f)")
        self.bad(GREAT_RING, "answers", "columns c b a", "tree ((t u) v)")

    def test_just_about_the_bound(self):
        question, house = plain.column_apart(3)
        fit = (house[0], house[1][:25], house[2][:3])
        self.says(show(question, fit), "tree (f (b d))", "sizes 75 3000")
        self.assertEqual(len(answered(show(question, fit), "answers").split("\n")), 3000)
        wide = (house[0][:38], house[1][:20], house[2][:4])
        self.bad(show(question, wide), "answers", "columns f b d", "tree (f (b d))")
        self.bad(show(question, (house[0], house[1], house[2][:2])), "answers")

    def test_a_table_without_rows_does_not_make_it_fit(self):
        question, house = plain.column_apart(3)
        for at in range(4):
            text = show(question[:at] + (("x", ("a",)),) + question[at:], house[:at] + ((),) + house[at:])
            self.bad(text, "answers", "columns f a b d", "tree ((f x) (b d))")
            self.says(text, "count", "0")

    def test_no_row_is_ahead(self):
        for text in (GREAT, GREAT_RING):
            self.refused(NoRow, text, "answers x", "columns a", "columns a b", "tree t", "tree (a b)", "tree (t t)")

    def test_the_others_are_answered(self):
        self.says(GREAT, "cover 1 1 1 1 1 1", "price 6/1")
        self.says(GREAT, "worst (((((a b) c) d) e) f) 1 1 1 1 1 1", "price 6/1 f b d a c e")
        self.says(GREAT, "ears", "yes")
        self.says(GREAT, "count", str(40 ** 6))
        self.says(GREAT, "at 0", "0 1 2 3 4 5")
        self.says(GREAT, f"at {40 ** 6 - 1}", "78 118 158 198 238 278")
        self.says(GREAT, "place 78 118 158 198 238 278", str(40 ** 6 - 1))
        self.says(GREAT_RING, "cover 1 1 1", "price 3/2")
        self.says(GREAT_RING, "worst ((t u) v) 1 1 1", "price 2/1 t u")
        self.says(GREAT_RING, "ears", "no")


class NoEarsAndNoAnswer(Desk):
    def test_no_ears(self):
        for text in (RING, GREAT_RING):
            self.refused(NoEars, text, "count", "at 0", "at 999999999999", "place 0 0 0", "place 999 999 999")

    def test_no_answer(self):
        self.refused(NoAnswer, CHAIN, "at 6", "at 7", "at 999999999999")
        self.refused(NoAnswer, BARE, "at 0", "at 1")
        self.refused(NoAnswer, GREAT, f"at {40 ** 6}", "at 999999999999")

    def test_no_row_is_ahead(self):
        self.refused(NoRow, RING, "count 0", "at", "at 00", "at x", "place 0 0", "at 1000000000000")
        self.refused(NoRow, BARE, "at 01", "at 1000000000000", "at 0 0")
