"""Point 34: normal rows, and the order of all that are alike."""

from math import comb
from random import Random

from endsandround.alike import are_alike
from endsandround.errors import InvalidRow, InvalidTriple, Refused
from endsandround.normal import alike_at, alike_count, alike_index, normal_row
from tests import brute
from tests.checks import WRONG_NUMBER_ROWS, WRONG_TRIPLES, Case, Odd

TRIPLES = [(first, last, step) for first in (0, 1, 2) for last in (0, 1, 2) for step in (1, 2, 3, 10 ** 20)]


class NormalTest(Case):
    def test_as_by_all_rows(self):
        random = Random(341)
        for triple in TRIPLES:
            for length in range(8):
                row = tuple(random.choice((0, 1, 5)) for _ in range(length))
                rows = brute.alike_rows(triple, row)
                self.assertEqual(normal_row(triple, row), rows[0])
                self.assertEqual(alike_count(triple, row), len(rows))
                self.assertEqual(alike_index(triple, row), rows.index(row))
                for at in range(0, len(rows), 1 + len(rows) // 12):
                    self.assertEqual(alike_at(triple, row, at), rows[at])
                    self.assertEqual(alike_index(triple, rows[at]), at)
                    self.assertEqual(normal_row(triple, rows[at]), rows[0])
                self.raises_at(Refused, len(rows), alike_at, triple, row, len(rows))

    def test_alike_exactly_if_the_normal_rows_are_equal(self):
        for triple in TRIPLES:
            for one in brute.rows(2, 4):
                for other in brute.rows(2, 4):
                    equal = normal_row(triple, one) == normal_row(triple, other)
                    self.assertEqual(equal, are_alike(triple, one, other))

    def test_told(self):
        self.assertEqual(normal_row(triple=[1, 1, 2], row=[3, 2, 1, 1, 0, 0]), (3, 1, 0, 2, 1, 0))
        self.assertEqual(alike_count(triple=(0, 0, 1), row=[1, 0, 1, 0]), 6)
        self.assertEqual(alike_at(triple=(0, 0, 1), row=[1, 0, 1, 0], at=3), (1, 0, 0, 1))
        self.assertEqual(alike_index(triple=(0, 0, 1), row=[1, 0, 0, 1]), 3)
        self.is_all_tuples((normal_row([0, 0, 1], [1, 0]), alike_at([0, 0, 1], [1, 0], 0)))

    def test_short_rows(self):
        for triple in ((0, 0, 1), (2, 2, 1), (10 ** 30, 0, 1), (0, 0, 10 ** 30)):
            for row in ((), (3,), (3, 1)):
                if triple == (0, 0, 1) and len(row) == 2:
                    continue
                self.assertEqual(normal_row(triple, row), row)
                self.assertEqual(alike_count(triple, row), 1)
                self.assertEqual(alike_at(triple, row, 0), row)
                self.assertEqual(alike_index(triple, row), 0)
                self.raises_at(Refused, 1, alike_at, triple, row, 1)

    def test_500_entries(self):
        random = Random(342)
        for triple, many in (((0, 0, 1), 500), ((3, 4, 1), 2), ((10, 10, 20), 5), ((0, 0, 100), 3)):
            row = [random.randrange(many) for _ in range(500)]
            index = alike_index(triple, row)
            self.assertLess(index, alike_count(triple, row))
            self.assertEqual(alike_at(triple, row, index), tuple(row))
            self.assertEqual(alike_at(triple, row, 0), normal_row(triple, row))
            self.assertEqual(alike_index(triple, normal_row(triple, row)), 0)
            count = alike_count(triple, row)
            last = alike_at(triple, row, count - 1)
            self.assertEqual(alike_index(triple, last), count - 1)
            self.raises_at(Refused, count, alike_at, triple, row, count)
        self.assertEqual(alike_count((0, 0, 1), [0, 1] * 250), comb(500, 250))

    def test_wrong_indexes(self):
        for value in (-1, 6, 7, None, "0", 0.0, True, False, (0,), Odd(), 10 ** 40):
            self.raises_at(Refused, 6, alike_at, (0, 0, 1), (2, 0, 1), value)

    def test_wrong_triples_and_rows(self):
        for value, at in WRONG_TRIPLES:
            for function in (normal_row, alike_count, alike_index):
                self.raises_at(InvalidTriple, at, function, value, None)
            self.raises_at(InvalidTriple, at, alike_at, value, None, None)
        for value, at in WRONG_NUMBER_ROWS:
            for function in (normal_row, alike_count, alike_index):
                self.raises_at(InvalidRow, at, function, (0, 0, 1), value)
            self.raises_at(InvalidRow, at, alike_at, (0, 0, 1), value, None)

    def test_nothing_is_changed(self):
        triple, row = [0, 0, 1], [2, 1, 0]
        told = normal_row(triple, row), alike_at(triple, row, 5)
        alike_count(triple, row)
        alike_index(triple, row)
        self.assertEqual((triple, row), ([0, 0, 1], [2, 1, 0]))
        row[0] = 9
        self.assertEqual(told, ((0, 1, 2), (2, 1, 0)))
