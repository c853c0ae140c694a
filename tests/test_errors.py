"""[1], [9]: the errors, their place in the order of classes, their attributes."""

import unittest

from deedseen import errors
from tests.helping import HOSTILE

NAMES = {
    "BadDrawing": ("place",), "BadLot": ("value",), "BadWorld": ("place",), "BadTable": ("place",),
    "BadQuestion": ("place",), "BadSteps": ("place",), "BadHedge": ("value",), "BadRoad": ("value",),
    "BadText": ("line", "word"), "BadDeed": ("place",), "BadParameter": ("value",), "Nought": ("row",),
    "NoRow": (), "TooGreat": ("most",),
}


class ErrorsTest(unittest.TestCase):

    def test_order_of_classes(self):
        self.assertEqual(errors.DeedError.__bases__, (ValueError,))
        for name in NAMES:
            self.assertEqual(getattr(errors, name).__bases__, (errors.DeedError,), name)

    def test_no_other_errors(self):
        kinds = {name for name, value in vars(errors).items() if isinstance(value, type)}
        self.assertEqual(kinds, {"DeedError", *NAMES})

    def test_attributes_by_position_and_by_name(self):
        values = [(1, 2), (), 7, "word", None]
        for name, attributes in NAMES.items():
            for value in values:
                told = {attribute: (at, value) for at, attribute in enumerate(attributes)}
                kind = getattr(errors, name)
                self.assertEqual(vars(kind(*told.values())), told)
                self.assertEqual(vars(kind(**told)), told)

    def test_too_many_or_too_few_arguments(self):
        for name, attributes in NAMES.items():
            for many in {0, 1, 2, 3} - {len(attributes)}:
                with self.assertRaises(TypeError):
                    getattr(errors, name)(*range(many))

    def test_values_of_any_kind_are_kept(self):
        for name in ("BadLot", "BadParameter", "BadHedge", "BadRoad"):
            self.assertIs(getattr(errors, name)(HOSTILE).value, HOSTILE)

    def test_caught_as_deed_error_and_as_value_error(self):
        for name, attributes in NAMES.items():
            for kind in (errors.DeedError, ValueError):
                with self.assertRaises(kind):
                    raise getattr(errors, name)(*range(len(attributes)))

    def test_messages_are_strings(self):
        for name, attributes in NAMES.items():
            self.assertTrue(str(getattr(errors, name)(*range(len(attributes)))))


if __name__ == "__main__":
    unittest.main()
