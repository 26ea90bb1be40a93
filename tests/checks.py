"""What many tests ask."""

import unittest

from endsandround.common import is_integer

# Values that are no reorderings, each with the number that the error keeps.
WRONG_REORDERINGS = (
    (None, 0), (3, 0), ("01", 0), ({0: 1}, 0), ((1,), 0), ((0, 0), 1), ((1, 2), 1), ([0, 1, -1], 2), ((0, "1"), 1),
    ((0, True), 1), ((False, 1), 0), ((1, 0.0), 1), ((0, None, 1), 1), ([1, 0, 1, 0], 2), (b"01", 0),
)

# Values that are no triples, each with the number that the error keeps.
WRONG_TRIPLES = (
    (None, 3), (3, 3), ("001", 3), ({0: 1}, 3), ((), 3), ((0, 0), 3), ([0, 0, 1, 1], 3), (b"001", 3), ((0, 0, 0), 2),
    ((-1, 0, 1), 0), ((0, -1, 0), 1), ([0, 0, -1], 2), ((True, 0, 1), 0), ((0, False, 1), 1), ((0, 0, True), 2),
    ((0, 0, 1.0), 2), (("0", None, 1), 0), ((0, None, 1), 1), ((0, 0, (1,)), 2),
)

# Values that are no rows of numbers, each with the number that the error keeps.
WRONG_NUMBER_ROWS = (
    (None, 0), (3, 0), ("01", 0), ({0: 1}, 0), (b"01", 0), ({1}, 0), ((-1,), 0), ([0, 1, -1, -2], 2), ((0, None), 1),
    ((0, 1, True), 2), ((0.0, 1), 0), ((0, "1"), 1), ([(0,)], 0), (range(3), 0),
)


class Odd:
    """Something else."""

    def __eq__(self, other):
        return True

    __hash__ = None


class Case(unittest.TestCase):
    def raises_at(self, error, at, function, *arguments, **named):
        """The call raises this very error, with this number kept."""
        with self.assertRaises(error) as caught:
            function(*arguments, **named)
        self.assertIs(caught.exception.__class__, error)
        self.assertEqual(caught.exception.at, at)
        self.assertTrue(is_integer(caught.exception.at))

    def is_all_tuples(self, value):
        """The value is made of tuples, integers, truth values, strings and None alone."""
        if isinstance(value, tuple):
            for part in value:
                self.is_all_tuples(part)
        else:
            self.assertTrue(value is None or isinstance(value, (int, str)), repr(value))
