"""Point 4: the errors."""

import unittest

from endsandround import errors

WITH_AT = (
    "InvalidMachine",
    "InvalidRow",
    "InvalidReordering",
    "InvalidQuestion",
    "InvalidTriple",
    "InvalidMove",
    "InvalidText",
    "NotReversible",
    "Refused",
)


class ErrorsTest(unittest.TestCase):
    def test_bases(self):
        self.assertEqual(errors.EndsError.__bases__, (ValueError,))
        for name in (*WITH_AT, "InvalidCommand"):
            self.assertEqual(getattr(errors, name).__bases__, (errors.EndsError,), name)

    def test_any_value_is_kept(self):
        for name in WITH_AT:
            error = getattr(errors, name)
            for value in (0, 17, 10 ** 5000, -1, None, "x", (1, 2)):
                self.assertIs(error(value).at, value)
                self.assertIs(error(at=value).at, value)
            kept = [1]
            self.assertIs(error(kept).at, kept)

    def test_an_argument_is_wanted(self):
        for name in WITH_AT:
            with self.assertRaises(TypeError):
                getattr(errors, name)()

    def test_invalid_command_has_none(self):
        self.assertFalse(hasattr(errors.InvalidCommand(), "at"))
        with self.assertRaises(ValueError):
            raise errors.InvalidCommand()

    def test_caught_by_the_common_name(self):
        with self.assertRaises(errors.EndsError):
            raise errors.Refused(3)


if __name__ == "__main__":
    unittest.main()
