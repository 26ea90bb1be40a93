"""Point 55: kinds in order."""

from random import Random

from endsandround.alike import are_alike
from endsandround.errors import InvalidRow, InvalidTriple, Refused
from endsandround.normal import normal_row
from endsandround.ranks import kind_at, kind_index
from endsandround.rowkinds import kind_count
from tests import brute
from tests.checks import WRONG_TRIPLES, Case, Odd

TRIPLES = [(first, last, step) for first in (0, 1, 3) for last in (0, 1, 2) for step in (1, 2, 3, 50)]
WRONG_ROWS = ((None, 0), (3, 0), ("01", 0), ((0, 2), 1), ([0, -1], 1), ((True,), 0), ((0, 1.0), 1), ((0, None), 1),
              ({0: 1}, 0), (b"\0", 0), ([0, 1, 1, 5], 3), (Odd(), 0), ((Odd(),), 0))


class RanksTest(Case):
    def test_as_by_all_rows(self):
        for triple in TRIPLES:
            for commands in (1, 2, 3):
                for length in range(8 if commands == 2 else 5):
                    rows = brute.rows(commands, length)
                    normal = sorted({normal_row(triple, row) for row in rows})
                    found = [kind_at(triple, commands, length, index) for index in range(len(normal))]
                    self.assertEqual(found, normal)
                    for row in rows[::3]:
                        self.assertEqual(kind_index(triple, commands, row), normal.index(normal_row(triple, row)))
                    self.raises_at(Refused, len(normal), kind_at, triple, commands, length, len(normal))

    def test_equal_exactly_if_alike(self):
        random = Random(551)
        for _ in range(300):
            triple = random.choice(TRIPLES)
            one, other = (tuple(random.randrange(2) for _ in range(4)) for _ in range(2))
            equal = kind_index(triple, 2, one) == kind_index(triple, 2, other)
            self.assertEqual(equal, are_alike(triple, one, other))

    def test_told(self):
        self.assertEqual(kind_at(triple=[0, 0, 2], commands=2, length=3, index=3), (0, 1, 1))
        self.assertEqual(kind_index(triple=[0, 0, 2], commands=2, row=[1, 1, 0]), 3)
        self.assertEqual(kind_at((0, 0, 1), 2, 0, 0), ())
        self.assertEqual(kind_index((2, 2, 3), 5, ()), 0)
        self.is_all_tuples(kind_at([0, 0, 2], 2, 3, 4))

    def test_300_entries(self):
        random = Random(552)
        for triple in ((0, 0, 1), (100, 100, 50), (3, 0, 7), (0, 90, 50), (100, 200, 1)):
            for commands in (1, 2, 5):
                many = kind_count(triple, commands, 300)
                self.raises_at(Refused, many, kind_at, triple, commands, 300, many)
                for index in (0, many - 1, random.randrange(many)):
                    row = kind_at(triple, commands, 300, index)
                    self.assertEqual(normal_row(triple, row), row)
                    self.assertEqual(kind_index(triple, commands, row), index)
                row = [random.randrange(commands) for _ in range(300)]
                index = kind_index(triple, commands, row)
                self.assertEqual(kind_at(triple, commands, 300, index), normal_row(triple, row))

    def test_wrong_indexes(self):
        for value in (-1, 4, 5, None, "0", 0.0, True, False, (0,), Odd(), 10 ** 40):
            self.raises_at(Refused, 4, kind_at, (0, 0, 1), 2, 3, value)

    def test_wrong_triples_come_first(self):
        for value, at in WRONG_TRIPLES:
            self.raises_at(InvalidTriple, at, kind_at, value, 2, 3, None)
            self.raises_at(InvalidTriple, at, kind_index, value, 2, None)

    def test_wrong_rows(self):
        for value, at in WRONG_ROWS:
            self.raises_at(InvalidRow, at, kind_index, (0, 0, 1), 2, value)

    def test_nothing_is_changed(self):
        triple, row = [0, 0, 1], [1, 0]
        kind_index(triple, 2, row)
        kind_at(triple, 2, 2, 0)
        self.assertEqual((triple, row), ([0, 0, 1], [1, 0]))
