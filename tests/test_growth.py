"""Points 56 and 57: growth, and what counts tell."""

from itertools import product
from math import factorial
from random import Random

from endsandround.errors import InvalidRow, InvalidTriple
from endsandround.growth import growth, told_by
from endsandround.rowkinds import kind_count
from tests.checks import WRONG_NUMBER_ROWS, WRONG_TRIPLES, Case


def counts_of(triple, commands, many):
    return [kind_count(triple, commands, length) for length in range(many)]


def told_slowly(counts):
    """Each triple tried by itself."""
    return tuple(
        (commands, ends, step)
        for commands in range(2, 6) for ends in range(len(counts)) for step in range(1, len(counts))
        if ends + step + 1 < len(counts) and counts_of((ends, 0, step), commands, len(counts)) == list(counts)
    )


class GrowthTest(Case):
    def test_as_by_differences(self):
        for first, last, step, commands in product((0, 1, 3), (0, 2), (1, 2, 3, 5), (1, 2, 3, 5)):
            degree, difference = growth((first, last, step), commands)
            self.assertEqual(degree, step * (commands - 1))
            for start in (first + last, first + last + 1, first + last + 7):
                line = [kind_count((first, last, step), commands, start + at * step) for at in range(degree + 4)]
                for _ in range(degree):
                    line = [two - one for one, two in zip(line, line[1:])]
                self.assertEqual(line, [difference] * 4)

    def test_told(self):
        self.assertEqual(growth((1, 0, 2), 2), (2, 4))
        self.assertEqual(growth(triple=[0, 0, 1], commands=1), (0, 1))
        self.assertEqual(growth((3, 4, 5), 1), (0, 1))
        self.assertEqual(growth((0, 0, 1), 5), (4, 1))

    def test_the_greatest(self):
        wanted = 5 ** 200 * factorial(200) // factorial(4) ** 50
        self.assertEqual(growth((100, 100, 50), 5), (200, wanted))

    def test_wrong_triples(self):
        for value, at in WRONG_TRIPLES:
            self.raises_at(InvalidTriple, at, growth, value, 2)


class ToldByTest(Case):
    def test_the_document_s_examples(self):
        self.assertEqual(told_by([1, 2, 4, 8, 12, 18]), ((2, 0, 3), (2, 1, 2)))
        self.assertEqual(told_by(counts=[1, 2, 4, 8, 12, 18, 24]), ((2, 1, 2),))

    def test_as_by_trying_all(self):
        for ends, step, commands, more in product((0, 1, 2, 3), (1, 2, 3, 4), (2, 3, 5), (0, 1, 2, 3, 5, 9)):
            counts = counts_of((ends, 0, step), commands, ends + step + more)
            self.assertEqual(told_by(counts), told_slowly(counts))
            wrong = [*counts[:-1], counts[-1] + 1]
            self.assertEqual(told_by(wrong), told_slowly(wrong))

    def test_other_numbers(self):
        random = Random(571)
        for _ in range(200):
            counts = [random.choice((0, 1, 1, 2, 2, 3, 4, 4)) for _ in range(random.randrange(6))]
            self.assertEqual(told_by(counts), told_slowly(counts))
        for counts in ([], (1,), [1, 2], (1, 2, 4), [1, 2, 4, 8, 16, 32], [0, 0, 0], [1, 1, 1, 1], [1, 6, 21],
                       [1, 0, 3], [2, 2, 3, 4]):
            self.assertEqual(told_by(counts), told_slowly(counts))

    def test_facts(self):
        for first, last, step, commands in product((0, 2), (0, 1), (1, 2, 5), (2, 4)):
            ends = first + last
            counts = counts_of((first, last, step), commands, ends + 2 * step + 2)
            self.assertEqual(told_by(counts), ((commands, ends, step),))
            for many in range(ends + step + 2, ends + 2 * step + 2):
                both, above = ends + step, many - 1 - ends - step
                found = told_by(counts[:many])
                wanted = [(commands, both - s, s) for s in range(both, 0, -1) if s >= above]
                self.assertIn(found, (((commands, ends, step),), tuple(wanted)))
                self.assertIn((commands, ends, step), found)

    def test_sixty_counts(self):
        for ends, step, commands in ((0, 1, 2), (29, 29, 3), (0, 58, 5), (57, 1, 4), (10, 24, 2)):
            counts = tuple(counts_of((ends, 0, step), commands, 60))
            found = told_by(counts)
            self.assertIn((commands, ends, step), found)
            self.assertEqual(sorted(found), list(found))
            for other in found:
                self.assertEqual(counts_of((other[1], 0, other[2]), other[0], 60), list(counts))
        self.assertEqual(told_by([2 ** length for length in range(60)]), ())
        self.assertEqual(len(told_by([2 ** length for length in range(59)] + [2 ** 59 - 2 ** 57])), 58)
        self.assertEqual(told_by([10 ** 900] * 60), ())

    def test_kinds_of_values(self):
        counts = [1, 2, 4, 8, 12, 18]
        self.is_all_tuples(told_by(counts))
        self.assertEqual(counts, [1, 2, 4, 8, 12, 18])
        self.assertEqual(told_by(tuple(counts)), told_by(counts))

    def test_wrong_counts(self):
        for value, at in WRONG_NUMBER_ROWS:
            self.raises_at(InvalidRow, at, told_by, value)
