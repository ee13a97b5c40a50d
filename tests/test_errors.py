"""[5]: the errors."""

import unittest

from checkwright import errors
from checkwright.errors import CheckError, NothingToRedo, NothingToUndo

WITH_VALUE = [
    "InvalidNumber", "InvalidOrders", "InvalidMember", "InvalidTable", "InvalidRow", "InvalidSystem", "InvalidCode",
    "InvalidSlip", "InvalidWish", "InvalidLinear", "InvalidGroup", "InvalidSquare", "InvalidText", "InvalidDeed",
    "Uneven", "TooMany", "Stuck",
]
WITHOUT = ["NothingToUndo", "NothingToRedo"]


class Errors(unittest.TestCase):
    def test_field(self):
        for name in WITH_VALUE:
            with self.subTest(name=name):
                kind = getattr(errors, name)
                value = [name, (1, None)]
                self.assertIs(kind(value).value, value)
                self.assertIs(kind(value=value).value, value)
                self.assertIsNone(kind().value)
                self.assertIs(kind(False).value, False)
                self.assertIsNone(kind(None).value)

    def test_each_is_its_own(self):
        for name in WITH_VALUE + WITHOUT:
            with self.subTest(name=name):
                kind = getattr(errors, name)
                self.assertEqual(kind.__bases__, (CheckError,))
                self.assertEqual(kind.__name__, name)
                self.assertEqual(kind.__module__, "checkwright.errors")
                self.assertIsInstance(kind(), CheckError)
                self.assertIsInstance(kind(), ValueError)
                for other in WITH_VALUE + WITHOUT:
                    self.assertEqual(isinstance(kind(), getattr(errors, other)), other == name)

    def test_raised_and_caught(self):
        for name in WITH_VALUE:
            kind = getattr(errors, name)
            value = {"a": [1]}
            with self.assertRaises(kind) as caught:
                raise kind(value)
            self.assertIs(caught.exception.value, value)
        for name in WITHOUT:
            with self.assertRaises(CheckError):
                raise getattr(errors, name)()

    def test_without_a_field(self):
        for error in (NothingToUndo(), NothingToRedo(), CheckError(), CheckError("word"), CheckError("two", 2)):
            self.assertFalse(hasattr(error, "value"))
            self.assertIsInstance(error, ValueError)

    def test_check_error_is_made_like_value_error(self):
        self.assertEqual(CheckError.__bases__, (ValueError,))
        self.assertIs(type(CheckError()), CheckError)
        for told in ((), ("word",), ("two", 2), ([1],)):
            self.assertEqual(CheckError(*told).args, told)
            self.assertEqual(str(CheckError(*told)), str(ValueError(*told)))


if __name__ == "__main__":
    unittest.main()
