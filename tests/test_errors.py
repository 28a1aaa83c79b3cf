import unittest

from mostrows import errors

MADE = [
    (errors.BadTable, "at", (3, -1)),
    (errors.BadQuestion, "at", (0, 6)),
    (errors.BadHouse, "table", ("t", "")),
    (errors.NoCover, "column", ("x", "y")),
    (errors.TooMany, "most", (3000, 12)),
    (errors.NoRing, None, ()),
    (errors.NoEars, None, ()),
    (errors.NoAnswer, None, ()),
    (errors.NoText, "row", (0, 7)),
    (errors.NoRow, None, ()),
]


def make(kind, field, value):
    return kind() if field is None else kind(value)


class Refusals(unittest.TestCase):
    def test_there_are_ten(self):
        self.assertEqual(len({kind for kind, field, values in MADE}), 10)

    def test_each_is_caught_by_its_own_class_and_those_above(self):
        for kind, field, values in MADE:
            for above in (kind, errors.RowsError, ValueError):
                with self.subTest(kind=kind, above=above), self.assertRaises(above):
                    raise make(kind, field, values[0] if values else None)

    def test_none_is_beneath_another(self):
        for kind, field, values in MADE:
            made = make(kind, field, values[0] if values else None)
            for other, other_field, other_values in MADE:
                with self.subTest(kind=kind, other=other):
                    self.assertEqual(isinstance(made, other), kind is other)

    def test_each_keeps_its_own_field(self):
        for kind, field, values in MADE:
            if field is not None:
                with self.subTest(kind=kind):
                    made = [kind(value) for value in values]
                    self.assertEqual([getattr(one, field) for one in made], list(values))
                    self.assertFalse(hasattr(kind, field))

    def test_rows_error_is_made_with_a_text(self):
        self.assertTrue(issubclass(errors.RowsError, ValueError))
        with self.assertRaises(errors.RowsError) as caught:
            raise errors.RowsError("some words")
        self.assertEqual(str(caught.exception), "some words")
        for kind, field, values in MADE:
            self.assertNotIsInstance(caught.exception, kind)
