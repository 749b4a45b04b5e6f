"""The errors: [0.19]."""

import unittest

from askable import errors
from askable.errors import AskError

WITH_MESSAGE = [
    "InvalidName", "InvalidTable", "InvalidDatabase", "InvalidRule", "InvalidQuery", "InvalidExamples",
    "InvalidOperation", "InvalidEdit", "ParseError", "InvalidCommand",
]
WITH_VALUE = {
    "InvalidNumber": ("value", IndexError),
    "UnknownName": ("name", KeyError),
    "TooMany": ("limit", OverflowError),
    "NoQuery": ("keeper", ArithmeticError),
    "NothingToUndo": ("many", LookupError),
}


class ErrorsTest(unittest.TestCase):
    def test_ask_error(self):
        self.assertEqual(AskError.__bases__, (ValueError,))
        with self.assertRaises(ValueError):
            raise AskError("some message")

    def test_errors_with_a_message(self):
        for name in WITH_MESSAGE:
            error = getattr(errors, name)
            self.assertEqual(error.__bases__, (AskError,), name)
            with self.assertRaises(AskError):
                raise error("some message")

    def test_errors_with_a_value(self):
        for name, (kept, base) in WITH_VALUE.items():
            error = getattr(errors, name)
            self.assertEqual(error.__bases__, (base,), name)
            self.assertFalse(issubclass(error, AskError))
            for value in (0, -3, 10 ** 39, True, None, "a", ("a", ["b"]), [], {"a": 1}):
                self.assertIs(getattr(error(value), kept), value)
                with self.assertRaises(base):
                    raise error(value)

    def test_they_take_one_value(self):
        for name in WITH_VALUE:
            for arguments in ((), (1, 2)):
                with self.assertRaises(TypeError):
                    getattr(errors, name)(*arguments)

    def test_none_is_derived_from_another_one(self):
        names = WITH_MESSAGE + list(WITH_VALUE)
        for one in names:
            for other in names:
                self.assertEqual(issubclass(getattr(errors, one), getattr(errors, other)), one == other)

    def test_these_are_all(self):
        found = [name for name, value in vars(errors).items() if isinstance(value, type)]
        self.assertEqual(sorted(found), sorted(["AskError"] + WITH_MESSAGE + list(WITH_VALUE)))


if __name__ == "__main__":
    unittest.main()
