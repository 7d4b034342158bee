"""Point 2 and the list of errors in the section "The interface"."""

import pickle
import unittest

from tests.values import integers, odd_values
from whoseday import errors

FIELDS = {
    "BadText": "line", "BadName": "name", "NoZone": "name", "NoProgram": "name",
    "NoRoute": "index", "BadPiece": "index", "BadNumber": "number", "TooMany": "most",
    "BadKind": "kind", "BadRule": "rule", "BadOffsets": "offsets", "NoHours": "program",
    "BadChange": "index", "BadLook": "index", "TooWide": "index", "NotTogether": "looks",
    "BadEntry": "entry", "NotARing": "names", "NotHeld": "name", "BadDeed": "index",
}
BARE = ["NothingToUndo", "OtherPrograms", "OtherRoutes"]


class ErrorsTest(unittest.TestCase):

    def test_base_is_a_value_error(self):
        self.assertEqual(errors.WhosedayError.__bases__, (ValueError,))

    def test_all_errors_are_directly_below_the_base(self):
        for name in [*FIELDS, *BARE]:
            with self.subTest(name):
                self.assertEqual(getattr(errors, name).__bases__, (errors.WhosedayError,))
                self.assertEqual(getattr(errors, name).__module__, "whoseday.errors")

    def test_there_are_no_others(self):
        found = {name for name, value in vars(errors).items() if isinstance(value, type)}
        self.assertEqual(found, {"WhosedayError", *FIELDS, *BARE})

    def test_field_is_the_value_that_was_handed_in(self):
        for name, field in FIELDS.items():
            for value in [*odd_values(), *integers(), "text", (1, 2)]:
                with self.subTest(name):
                    self.assertIs(getattr(getattr(errors, name)(value), field), value)

    def test_each_can_be_raised_and_caught(self):
        for name in FIELDS:
            with self.subTest(name), self.assertRaises(errors.WhosedayError):
                raise getattr(errors, name)(5)
        for name in BARE:
            with self.subTest(name), self.assertRaises(getattr(errors, name)):
                raise getattr(errors, name)()

    def test_fields_outlast_a_copy(self):
        for name, field in FIELDS.items():
            error = pickle.loads(pickle.dumps(getattr(errors, name)(("a", 7))))
            with self.subTest(name):
                self.assertEqual(getattr(error, field), ("a", 7))


if __name__ == "__main__":
    unittest.main()
