import unittest

from mostrows.names import is_name


class Names(unittest.TestCase):
    def test_names(self):
        for text in ("a", "z", "m", "ab", "abcdef", "zzzzzz", "aa", "table", "none"):
            with self.subTest(text=text):
                self.assertIs(is_name(text), True)

    def test_no_names(self):
        for text in ("", "abcdefg", "a" * 700, "A", "aB", "abcdeF", "1", "a1", "1a", " ", "a ", " a", "a b",
                     "a\n", "\n", "\na", "abcde\n", "abcdef\n", "a_", "a-b", "`", "{", "@", "\u00e9", "a\u00e4",
                     "\u0430", "\uff41", "\u00aa"):
            with self.subTest(text=text):
                self.assertIs(is_name(text), False)
