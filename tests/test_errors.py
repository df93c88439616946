"""The classes of cushioned.errors."""

import unittest

from cushioned import errors

PLAIN = ["InvalidTable", "InvalidBall", "InvalidQuestion", "NothingToUndo", "NothingToRedo"]
TELLING = {"UnknownName": "name", "InvalidNotation": "line", "InvalidPaper": "line"}


def all_classes():
    return [getattr(errors, word) for word in [*PLAIN, *TELLING]]


class ErrorsTest(unittest.TestCase):
    def test_base_class_is_a_value_error(self):
        self.assertEqual(errors.CushionedError.__bases__, (ValueError,))

    def test_each_class_has_the_base_class(self):
        for kind in all_classes():
            self.assertEqual(kind.__bases__, (errors.CushionedError,), kind)
            self.assertEqual(kind.__module__, "cushioned.errors")

    def test_no_class_is_taken_for_another_one(self):
        for kind in all_classes():
            for other in all_classes():
                self.assertEqual(issubclass(kind, other), kind is other)

    def test_plain_classes_are_raised_with_words_or_without(self):
        for word in PLAIN:
            kind = getattr(errors, word)
            with self.assertRaises(kind):
                raise kind()
            with self.assertRaises(errors.CushionedError):
                raise kind("why")

    def test_unknown_name_tells_the_name(self):
        with self.assertRaises(errors.UnknownName) as caught:
            raise errors.UnknownName("red")
        self.assertEqual(caught.exception.name, "red")
        self.assertIn("red", str(caught.exception))

    def test_lines_are_told(self):
        for kind in (errors.InvalidNotation, errors.InvalidPaper):
            with self.assertRaises(kind) as caught:
                raise kind(17)
            self.assertEqual(caught.exception.line, 17)
            self.assertIn("17", str(caught.exception))


if __name__ == "__main__":
    unittest.main()
