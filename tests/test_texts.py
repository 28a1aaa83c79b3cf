import random
import re
import unittest

import plain
from mostrows.errors import NoText
from mostrows.houses import look_house
from mostrows.questions import look
from mostrows.texts import read, read_tree, show, show_tree

QUESTION = (("t", ("a", "b")), ("table", ("b",)), ("u", ("c",)))
HOUSE = (((0, 10), (3, 0), (3, 999)), (), ((7,),))
TEXT = "table t a b\n0 10\n3 0\n3 999\ntable table b\ntable u c\n7"
NAME = "[a-z]{1,6}"
NUMBER = "(0|[1-9][0-9]{0,2})"


def is_text(rows):
    """Whether the rows make a text, by the document's words, all of them looked at anew."""
    question = []
    house = []
    for row in rows:
        if re.fullmatch(f"table {NAME}( {NAME}){{1,4}}", row):
            words = row.split()
            question.append((words[1], tuple(words[2:])))
            house.append([])
        elif re.fullmatch(f"{NUMBER}( {NUMBER})*", row) and question:
            house[-1].append(tuple(map(int, row.split())))
        else:
            return False
    names = [name for name, columns in question]
    right = 1 <= len(names) <= 6 and len(set(names)) == len(names) and len(plain.slow_columns(question)) <= 6
    right = right and all(len(set(columns)) == len(columns) for name, columns in question)
    right = right and all(rows == sorted(set(rows)) for rows in house)
    return right and all(len(row) == len(columns) for (name, columns), rows in zip(question, house) for row in rows)


def first_wrong(text):
    rows = text.split("\n")
    wrong = [number for number in range(len(rows)) if not is_text(rows[:number + 1])]
    return wrong[0] if wrong else None


class Wrong(unittest.TestCase):
    def wrong(self, text, row):
        with self.assertRaises(NoText) as caught:
            read(text)
        self.assertEqual(caught.exception.row, row, text)
        self.assertEqual(first_wrong(text), row, text)


class ShowAndRead(unittest.TestCase):
    def both(self, question, house):
        text = show(question, house)
        self.assertIsInstance(text, str)
        self.assertEqual(read(text), (question, house))
        self.assertIsNone(first_wrong(text))
        self.assertEqual(show(question, house), text)
        return text

    def test_as_it_stands(self):
        self.assertEqual(self.both(QUESTION, HOUSE), TEXT)
        self.assertEqual(self.both((("t", ("a",)),), ((),)), "table t a")
        self.assertEqual(self.both((("t", ("a",)),), (((0,),),)), "table t a\n0")
        self.assertEqual(self.both((("t", ("a",)), ("u", ("a",))), ((), ())), "table t a\ntable u a")
        self.assertEqual(self.both((("table", ("table",)),), (((5,), (10,), (100,)),)), "table table table\n5\n10\n100")
        self.assertEqual(self.both((("abcdef", ("zyxwvu", "b", "a", "ab")),), (((1, 2, 3, 4),),)),
                         "table abcdef zyxwvu b a ab\n1 2 3 4")

    def test_the_bounds_just_kept(self):
        six = tuple((name, (name,)) for name in "abcdef")
        self.both(six, (((0,), (999,)),) * 6)
        self.both((("t", ("a", "b", "c", "d")), ("u", ("f", "d", "e"))), (((0, 0, 0, 999),), ()))

    def test_what_is_read_is_let_by(self):
        question, house = read(TEXT)
        self.assertIs(look(question), True)
        self.assertIs(look_house(question, house), True)
        self.assertIsInstance(read(TEXT), tuple)

    def test_houses_that_are_not_fit(self):
        self.both(*plain.column_apart(6))

    def test_many(self):
        for question, house in plain.made_houses(353, 200):
            self.both(question, house)


class NoSuchText(Wrong):
    def test_without_signs(self):
        self.wrong("", 0)

    def test_words_that_are_no_names(self):
        self.assertEqual(read("table t a\n1\ntable tables a")[0][1], ("tables", ("a",)))
        for word in ("T", "tablesx", "a1", "7", "a-b", "abcdefg", "_", "(a", "a,", "~"):
            self.wrong(f"table {word} a", 0)
            self.wrong(f"table t {word}\n1", 0)
            self.wrong(f"table t a {word} b\n1", 0)
            self.wrong(f"table t a\n1\ntable {word} a", 2)
            self.wrong(f"table t a\n1\ntable u {word}", 2)

    def test_rows_that_begin_with_another_word(self):
        for word in ("Table", "tabl", "tables", "t", "row", "tablet"):
            self.wrong(f"{word} t a", 0)
            self.wrong(f"table t a\n1\n{word} u a\n2", 2)
        self.wrong("table t a\nx", 1)
        self.wrong("table t a b\n1 x", 1)
        self.wrong("table t a b\nx 1", 1)

    def test_numbers(self):
        for word in ("1000", "999999999999", "9" * 5000, "00", "01", "007", "000", "-1", "+1", "1.0", "1_0", "0x1",
                     "1a", "-0", "-", "1,", "1e2"):
            self.wrong(f"table t a\n{word}", 1)
            self.wrong(f"table t a b\n0 {word}", 1)
            self.wrong(f"table t a b\n0 0\n{word} 0", 2)
        self.assertEqual(read("table t a\n0\n9\n10\n99\n100\n999")[1], (((0,), (9,), (10,), (99,), (100,), (999,)),))

    def test_another_count_of_numbers(self):
        self.wrong("table t a b\n1 2\n3", 2)
        self.wrong("table t a b\n1 2\n3 4 5", 2)
        self.wrong("table t a\n1 2", 1)
        self.wrong("table t a b\ntable u c\n1 2", 2)

    def test_not_behind_the_one_ahead(self):
        self.wrong("table t a b\n1 2\n1 2", 2)
        self.wrong("table t a b\n1 2\n1 1", 2)
        self.wrong("table t a b\n1 2\n0 9\n5 5", 2)
        self.wrong("table t a\n10\n9", 2)
        self.wrong("table t a\n1\n2\n2", 3)
        self.assertEqual(read("table t a\n5\ntable u a\n1")[1], (((5,),), ((1,),)))

    def test_numbers_ahead_of_all_tables(self):
        self.wrong("1", 0)
        self.wrong("1 2\ntable t a b", 0)

    def test_a_table_called_twice(self):
        self.wrong("table t a\n1\ntable t b", 2)
        self.wrong("table t a\ntable u b\ntable t a\n1", 2)

    def test_columns(self):
        self.wrong("table t a a", 0)
        self.wrong("table u a\n1\ntable t a b c a\n1 2 3 4", 2)
        self.wrong("table t", 0)
        self.wrong("table", 0)
        self.wrong("table t a\ntable u", 1)
        self.wrong("table t a b c d e", 0)
        self.wrong("table t a\n1\ntable u b c d e f", 2)

    def test_a_seventh_table_and_a_seventh_column(self):
        six = "\n".join(f"table {name} a\n5" for name in "tuvwxy")
        self.assertEqual(len(read(six)[0]), 6)
        self.wrong(six + "\ntable z a", 12)
        self.wrong(six + "\ntable z a\n6", 12)
        wide = "table t a b c d\n1 2 3 4\ntable u d e f"
        self.assertEqual(len(read(wide)[0]), 2)
        self.wrong(wide + "\ntable v g", 3)
        self.wrong("table t a b c d\ntable u d e f g\n1 2 3 4", 1)

    def test_empty_rows_and_line_feeds(self):
        self.wrong("\n", 0)
        self.wrong("\ntable t a", 0)
        self.wrong("table t a\n", 1)
        self.wrong("table t a\n1\n", 2)
        self.wrong("table t a\n\n1", 1)
        self.wrong(TEXT + "\n", 7)

    def test_blanks(self):
        self.wrong(" ", 0)
        for row in ("table  u b", " table u b", "table u b ", "table u  b", "table  ", "table ", "table u "):
            self.wrong(row, 0)
            self.wrong("table t a\n1\n" + row, 2)
        for row in ("1  2", " 1 2", "1 2 ", "1 ", " ", "  "):
            self.wrong("table t a b\n" + row, 1)
            self.wrong("table t a b\n0 0\n" + row, 2)
        self.wrong("table t a\n1 ", 1)
        self.wrong("table t a\n 1", 1)

    def test_the_first_wrong_row_of_several(self):
        self.wrong("table t a\n2\n1\nx\ntable t a", 2)
        self.wrong("table t a\n1\nx\n0", 2)

    def test_texts_changed_a_little(self):
        chance = random.Random(359)
        told = {"right": 0, "wrong": 0}
        for question, house in plain.made_houses(367, 150):
            text = show(question, house)
            for turn in range(12):
                at = chance.randrange(len(text))
                sign = chance.choice(" \n0123459abtZ(-~")
                changed = chance.choice((text[:at] + sign + text[at:], text[:at] + text[at + 1:],
                                         text[:at] + sign + text[at + 1:]))
                row = first_wrong(changed)
                if row is None:
                    self.assertEqual(show(*read(changed)), changed)
                    told["right"] += 1
                else:
                    self.wrong(changed, row)
                    told["wrong"] += 1
        self.assertGreater(min(told.values()), 100)


def is_tree_text(text):
    """Pairs of names are put for by a name, again and again, till one is left."""
    pair = re.compile(rf"\((?:{NAME}|#) (?:{NAME}|#)\)")
    while pair.search(text):
        text = pair.sub("#", text)
    return re.fullmatch(f"{NAME}|#", text) is not None


class Trees(unittest.TestCase):
    def no(self, text):
        self.assertFalse(is_tree_text(text), text)
        with self.assertRaises(NoText) as caught:
            read_tree(text)
        self.assertEqual(caught.exception.row, 0)

    def test_as_they_stand(self):
        for tree, text in (("t", "t"), ("abcdef", "abcdef"), (("t", "u"), "(t u)"),
                           ((("t", "u"), "v"), "((t u) v)"), (("t", ("u", "v")), "(t (u v))"),
                           ((("a", "b"), ("c", "d")), "((a b) (c d))"),
                           (((("t", "u"), "v"), "w"), "(((t u) v) w)"), (("t", ("u", ("v", "w"))), "(t (u (v w)))"),
                           ((("t", ("u", "v")), (("w", "x"), "y")), "((t (u v)) ((w x) y))")):
            self.assertEqual(show_tree(tree), text)
            self.assertEqual(read_tree(text), tree)
            self.assertTrue(is_tree_text(text))

    def test_names_twice_are_let_by(self):
        self.assertEqual(read_tree("(t t)"), ("t", "t"))
        self.assertEqual(read_tree("((t u) (t u))"), (("t", "u"), ("t", "u")))
        self.assertEqual(show_tree(("t", ("t", "t"))), "(t (t t))")

    def test_many(self):
        chance = random.Random(373)
        for turn in range(200):
            tree = plain.made_tree(chance, [chance.choice(("t", "u", "ab", "table")) for at in range(turn % 12 + 1)])
            self.assertEqual(read_tree(show_tree(tree)), tree)
            self.assertTrue(is_tree_text(show_tree(tree)))

    def test_brackets_that_do_not_close(self):
        for text in ("(", ")", "(t", "t)", "(t u", "t u)", "((t u) v", "(t u) v)", "((t u)", "(t u))", "(t (u v)",
                     ")t u(", "()", "(t u)(", "((t u v)", "(t u v))", "t(", "(t) u)", ")(t u)", "((t)", "(((t) u)",
                     "t u v)", "(t (u v w)", "((t (u) v)", "(t u v) w)"):
            self.no(text)

    def test_blanks_too_many_or_too_few(self):
        for text in (" ", " t", "t ", "(t  u)", "( t u)", "(t u )", " (t u)", "(t u) ", "((t u)v)", "(t(u v))",
                     "((t u)(v w))", "((t u)  v)", "(tu)", "( )", "(t )", "( u)"):
            self.no(text)

    def test_no_name(self):
        for text in ("T", "7", "abcdefg", "(t U)", "(t 7)", "(t-u v)", "(t u,)", "(abcdefg t)", "(t _)", "t\n",
                     "(t\nu)", "[t u]", "(t [u v])"):
            self.no(text)

    def test_something_behind(self):
        for text in ("t u", "(t u) v", "(t u) (v w)", "(t u)v", "(t u)t", "t t"):
            self.no(text)

    def test_pairs_of_one_or_three_or_none(self):
        for text in ("(t)", "((t u))", "(t u v)", "((t) u)", "(t (u))", "((t u) v w)", "(t (u v w))", "(() t)", "()",
                     "((t u) (v))", "(((t u) v) (w x) y)"):
            self.no(text)

    def test_without_signs(self):
        self.no("")

    def test_texts_changed_a_little(self):
        chance = random.Random(379)
        right = 0
        for turn in range(1500):
            text = show_tree(plain.made_tree(chance, list("tuvwxy"[:turn % 6 + 1])))
            at = chance.randrange(len(text) + 1)
            changed = chance.choice((text[:at] + chance.choice(" ()tT") + text[at:], text[:at] + text[at + 1:]))
            if is_tree_text(changed):
                self.assertEqual(show_tree(read_tree(changed)), changed)
                right += 1
            else:
                self.no(changed)
        self.assertGreater(right, 50)

    def test_deeper_than_calls_may_go(self):
        left = "(" * 1900 + "t" + " u)" * 1900
        right = "(u " * 1900 + "t" + ")" * 1900
        self.assertEqual(show_tree(read_tree(left)), left)
        self.assertEqual(show_tree(read_tree(right)), right)
        for text in ("(" * 8000, ")" * 8000, left + ")", "(" + right, right[:-1], left[1:]):
            with self.assertRaises(NoText):
                read_tree(text)
