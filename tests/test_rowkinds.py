"""Point 54: kinds of rows."""

from math import comb, factorial
from random import Random

from endsandround.errors import InvalidTriple
from endsandround.normal import alike_count, normal_row
from endsandround.rowkinds import kind_count, most_alike
from tests import brute
from tests.checks import WRONG_TRIPLES, Case

TRIPLES = [(first, last, step) for first in (0, 1, 3) for last in (0, 1, 2) for step in (1, 2, 3, 50)]
FAR = 10 ** 18


class KindsTest(Case):
    def test_as_by_all_rows(self):
        for triple in TRIPLES:
            for commands in (1, 2, 3):
                for length in range(8 if commands == 2 else 5):
                    kinds = {}
                    for row in brute.rows(commands, length):
                        kinds.setdefault(normal_row(triple, row), []).append(row)
                    self.assertEqual(kind_count(triple, commands, length), len(kinds))
                    self.assertEqual(most_alike(triple, commands, length), max(map(len, kinds.values())))
                    self.assertEqual(sum(alike_count(triple, row) for row in kinds), commands ** length)

    def test_the_document_s_example(self):
        self.assertEqual([kind_count((1, 0, 2), 2, length) for length in range(7)], [1, 2, 4, 8, 12, 18, 24])

    def test_told(self):
        self.assertEqual(kind_count(triple=[0, 0, 1], commands=2, length=5), 6)
        self.assertEqual(most_alike(triple=[0, 0, 1], commands=2, length=5), 10)
        self.assertEqual(kind_count((0, 0, 1), 5, 0), 1)
        self.assertEqual(most_alike((0, 0, 1), 5, 0), 1)
        self.assertEqual(kind_count((100, 100, 50), 5, 200), 5 ** 200)
        self.assertEqual(kind_count((100, 100, 50), 5, 199), 5 ** 199)
        self.assertEqual(most_alike((100, 100, 50), 5, 200), 1)
        self.assertEqual(kind_count((7, 3, 50), 1, FAR), 1)

    def test_far_lengths(self):
        self.assertEqual(kind_count((0, 0, 1), 5, FAR), comb(FAR + 4, 4))
        self.assertEqual(kind_count((0, 0, 2), 2, FAR), (FAR // 2 + 1) ** 2)
        rest, size = FAR - 200 - (FAR - 200) // 50 * 50, (FAR - 200) // 50
        self.assertEqual(rest, 0)
        self.assertEqual(kind_count((100, 100, 50), 5, FAR), 5 ** 200 * comb(size + 4, 4) ** 50)
        self.assertEqual(kind_count((100, 99, 50), 5, FAR), 5 ** 199 * comb(size + 5, 4) * comb(size + 4, 4) ** 49)

    def test_facts(self):
        random = Random(541)
        for _ in range(200):
            first, last, step = random.randrange(5), random.randrange(5), random.randrange(1, 6)
            commands, length = random.randrange(1, 6), random.randrange(30)
            many = kind_count((first, last, step), commands, length)
            self.assertEqual(many, kind_count((first + last, 0, step), commands, length))
            for wider in ((first + 1, last, step), (first, last + 2, step), (first, last, 3 * step)):
                self.assertGreaterEqual(kind_count(wider, commands, length), many)

    def test_most_alike_up_to_1000(self):
        wanted = factorial(200) ** 5
        self.assertEqual(most_alike((0, 0, 1), 5, 1000), factorial(1000) // wanted)
        self.assertEqual(most_alike((0, 0, 1), 3, 1000), factorial(1000) // (factorial(333) ** 2 * factorial(334)))
        self.assertEqual(most_alike((0, 0, 50), 2, 1000), comb(20, 10) ** 50)
        self.assertEqual(most_alike((1, 0, 50), 2, 1000), comb(20, 10) ** 49 * comb(19, 9))
        self.assertEqual(most_alike((100, 100, 3), 1, 1000), 1)

    def test_wrong_triples(self):
        for value, at in WRONG_TRIPLES:
            self.raises_at(InvalidTriple, at, kind_count, value, 2, 3)
            self.raises_at(InvalidTriple, at, most_alike, value, 2, 3)
