"""Promise 8: the errors."""

import unittest

from unknowncorners import errors

PLAIN_NAMES = [
    "InvalidFrame", "InvalidProgram", "InvalidSetting", "InvalidCell", "InvalidFacts",
    "InvalidIndex", "InvalidColour", "InvalidStatement", "InvalidWidths", "InvalidValue",
    "Impossible", "OtherFrame", "NothingToUndo", "InvalidCommand",
]


class ErrorsTest(unittest.TestCase):
    def test_paint_error_stands_directly_under_value_error(self):
        self.assertEqual(errors.PaintError.__bases__, (ValueError,))
        self.assertEqual(str(errors.PaintError("why")), "why")

    def test_each_error_stands_directly_under_paint_error(self):
        for name in PLAIN_NAMES + ["InvalidText"]:
            with self.subTest(name):
                self.assertEqual(getattr(errors, name).__bases__, (errors.PaintError,))

    def test_none_stands_under_another_one(self):
        classes = [getattr(errors, name) for name in PLAIN_NAMES + ["InvalidText"]]
        self.assertEqual(len(set(classes)), 15)
        for one in classes:
            for other in classes:
                self.assertEqual(issubclass(one, other), one is other)

    def test_each_is_defined_under_its_own_name_in_its_file(self):
        for name in PLAIN_NAMES + ["InvalidText", "PaintError"]:
            self.assertEqual(getattr(errors, name).__name__, name)
            self.assertEqual(getattr(errors, name).__module__, "unknowncorners.errors")

    def test_each_is_made_with_one_string_and_caught_by_its_name(self):
        for name in PLAIN_NAMES:
            error = getattr(errors, name)
            for caught in (error, errors.PaintError, ValueError):
                with self.subTest(name), self.assertRaises(caught) as told:
                    raise error("the reason")
                self.assertIs(type(told.exception), error)
                self.assertEqual(str(told.exception), "the reason")

    def test_invalid_text_keeps_its_place(self):
        for place in (0, 1, 7, 8000):
            self.assertEqual(errors.InvalidText(place).place, place)
            self.assertEqual(errors.InvalidText(place=place).place, place)
            for caught in (errors.InvalidText, errors.PaintError, ValueError):
                with self.assertRaises(caught) as told:
                    raise errors.InvalidText(place)
                self.assertEqual(told.exception.place, place)

    def test_the_field_is_each_object_s_own(self):
        one, other = errors.InvalidText(1), errors.InvalidText(2)
        self.assertEqual((one.place, other.place), (1, 2))
        self.assertEqual(vars(one), {"place": 1})


if __name__ == "__main__":
    unittest.main()
