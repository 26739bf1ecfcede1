"""[0.19]: the errors, what they are derived from, and what they keep."""

import unittest

from termpaths import errors

WITH_MESSAGE = (
    "InvalidTerm", "InvalidPattern", "InvalidProgram", "InvalidRun", "InvalidTable", "InvalidModel",
    "InvalidOperation", "InvalidEdit", "ParseError", "InvalidCommand",
)
WITH_VALUE = {
    "InvalidNumber": (IndexError, "value"), "UnknownName": (KeyError, "name"), "TooLarge": (OverflowError, "limit"),
    "Broken": (RuntimeError, "index"), "NothingToUndo": (LookupError, "many"),
}


class ErrorsTest(unittest.TestCase):
    def test_term_error(self):
        self.assertEqual(errors.TermError.__bases__, (ValueError,))
        with self.assertRaises(ValueError):
            raise errors.TermError("a message")

    def test_with_message(self):
        for name in WITH_MESSAGE:
            kind = getattr(errors, name)
            self.assertEqual(kind.__bases__, (errors.TermError,), name)
            self.assertEqual(kind.__module__, "termpaths.errors")
            with self.assertRaises(errors.TermError):
                raise kind("a message")
            for other in WITH_MESSAGE:
                self.assertEqual(issubclass(kind, getattr(errors, other)), name == other)

    def test_with_value(self):
        for name, (base, attribute) in WITH_VALUE.items():
            kind = getattr(errors, name)
            self.assertEqual(kind.__bases__, (base,), name)
            self.assertFalse(issubclass(kind, errors.TermError))
            for other in WITH_VALUE:
                self.assertEqual(issubclass(kind, getattr(errors, other)), name == other)
            for value in (7, "x", None, (1, 2), [3]):
                with self.assertRaises(base) as caught:
                    raise kind(value)
                self.assertEqual(getattr(caught.exception, attribute), value)
            with self.assertRaises(TypeError):
                kind()
            with self.assertRaises(TypeError):
                kind(1, 2)


if __name__ == "__main__":
    unittest.main()
