import unittest

from tokenlanes import errors
from tokenlanes.errors import Contradiction, InvalidGate, LaneError, TooLarge

WITH_TEXT = [
    "InvalidLanes", "InvalidBoard", "InvalidPower", "InvalidLane", "InvalidSetting",
    "InvalidEntries", "InvalidAmounts", "InvalidNumber", "InvalidSeen", "InvalidTicket",
    "InvalidText", "InvalidCommand", "Different", "NoFlow", "NothingToUndo", "ReturnInside",
]
WITH_FIELD = {"InvalidGate": "index", "TooLarge": "limit", "Contradiction": "index"}


class ErrorClasses(unittest.TestCase):
    def test_base_class_stands_directly_under_value_error(self):
        self.assertEqual(LaneError.__bases__, (ValueError,))

    def test_every_class_stands_directly_under_the_base_class(self):
        for name in WITH_TEXT + list(WITH_FIELD):
            with self.subTest(name=name):
                self.assertEqual(getattr(errors, name).__bases__, (LaneError,))

    def test_classes_are_defined_in_this_file(self):
        for name in ["LaneError"] + WITH_TEXT + list(WITH_FIELD):
            with self.subTest(name=name):
                found = getattr(errors, name)
                self.assertEqual((found.__module__, found.__name__), ("tokenlanes.errors", name))

    def test_no_other_class_stands_elsewhere(self):
        for name, found in vars(errors).items():
            if isinstance(found, type) and found is not LaneError:
                with self.subTest(name=name):
                    self.assertEqual(found.__bases__, (LaneError,))

    def test_classes_with_a_text(self):
        for name in WITH_TEXT:
            with self.subTest(name=name):
                error = getattr(errors, name)("some text")
                self.assertEqual((str(error), vars(error)), ("some text", {}))

    def test_classes_with_a_field_keep_their_value_in_it(self):
        for name, field in WITH_FIELD.items():
            for value in [0, 1, 24, None]:
                with self.subTest(name=name, value=value):
                    self.assertEqual(vars(getattr(errors, name)(value)), {field: value})

    def test_fields_are_set_when_raised(self):
        for made, field in [(InvalidGate(3), "index"), (TooLarge(8), "limit"), (Contradiction(0), "index")]:
            with self.subTest(field=field):
                with self.assertRaises(LaneError) as caught:
                    raise made
                self.assertIn(getattr(caught.exception, field), [3, 8, 0])
                self.assertIsInstance(caught.exception, ValueError)


if __name__ == "__main__":
    unittest.main()
