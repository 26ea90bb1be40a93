"""Point 47: teaching."""

from itertools import combinations

from endsandround.errors import InvalidTriple
from endsandround.findings import agrees, checked_findings, widest
from endsandround.leftover import pinned
from endsandround.teaching import is_teaching, teaching, teaching_count
from tests.checks import WRONG_TRIPLES, Case, Odd
from tests.test_findings import agreeing, framed

SMALL = [(first, last, step) for first in (0, 1, 2) for last in (0, 1, 3) for step in (1, 2, 4, 6)]


class TeachingTest(Case):
    def test_they_teach_and_none_can_be_left_out(self):
        for triple in (*SMALL, (5, 0, 6), (0, 6, 5)):
            told = teaching(triple)
            self.is_all_tuples(told)
            self.assertEqual(checked_findings(told), told)
            self.assertEqual(list(told), sorted(told))
            self.assertEqual(agreeing(told), [triple])
            self.assertEqual(pinned(told), triple)
            self.assertIs(is_teaching(triple, told), True)
            self.assertEqual(len(told), teaching_count(triple))
            for many in range(len(told)):
                for some in combinations(told, many):
                    self.assertIs(is_teaching(triple, some), False)

    def test_counts(self):
        for first in (0, 1, 100):
            for last in (0, 1, 100):
                for step in range(1, 101):
                    primes = [q for q in range(2, step + 1) if step % q == 0 and all(q % r for r in range(2, q))]
                    wanted = 1 + (first > 0) + (last > 0) + len(primes)
                    self.assertEqual(teaching_count((first, last, step)), wanted)

    def test_fewest(self):
        # With less findings of any kind, something else agrees, too.
        pool = [(framed(a, b, s), harmless) for a in range(3) for b in range(2) for s in (1, 2) for harmless in (True, False)]
        for triple in ((0, 0, 1), (1, 0, 1), (0, 0, 2), (1, 1, 1)):
            for many in range(teaching_count(triple)):
                for some in combinations(pool, many):
                    self.assertIs(is_teaching(triple, some), False)
                    self.assertFalse(agreeing(some) == [triple])

    def test_as_by_all_triples(self):
        pool = [(framed(a, b, s), harmless) for a in range(2) for b in range(2) for s in (1, 2) for harmless in (True, False)]
        pool += [((0, 1), True), ((0, 1), False), ((), True), ((1, 2, 0), True), ((3, 4, 2, 0, 1), False)]
        for many in range(4):
            for some in combinations(pool, many):
                good = agreeing(some)
                for triple in ((0, 0, 1), (0, 0, 2), (1, 0, 1), (0, 1, 2)):
                    self.assertIs(is_teaching(triple, some), good == [triple])

    def test_told(self):
        told = teaching(triple=[1, 0, 2])
        self.assertEqual(teaching_count(triple=[1, 0, 2]), 3)
        self.assertIs(is_teaching(triple=[1, 0, 2], value=told), True)
        self.assertEqual(widest(told), (1, 0, 2))
        self.assertEqual(teaching_count((0, 0, 1)), 1)

    def test_numbers_up_to_100(self):
        for triple in ((100, 100, 100), (100, 0, 97), (0, 100, 90), (100, 100, 1)):
            told = teaching(triple)
            self.assertIs(is_teaching(triple, told), True)
            for at in range(len(told)):
                self.assertIs(is_teaching(triple, told[:at] + told[at + 1:]), False)
                flipped = (*told[:at], (told[at][0], not told[at][1]), *told[at + 1:])
                self.assertIs(is_teaching(triple, flipped), False)
                self.assertFalse(agrees(triple, flipped))

    def test_more_than_needed(self):
        told = teaching((1, 1, 2))
        more = (*told, *told, ((0, 1, 2), True), (framed(3, 3, 4), True))
        self.assertIs(is_teaching((1, 1, 2), more), True)
        self.assertIs(is_teaching((1, 1, 2), (*more, (framed(3, 3, 4), False))), False)
        self.assertIs(is_teaching((1, 1, 2), (*more, ((0, 1), False))), False)

    def test_what_is_none(self):
        told = teaching((0, 0, 2))
        (one,), (other,) = ([p for p, harmless in told if harmless is wanted] for wanted in (True, False))
        self.assertIs(is_teaching((0, 0, 2), told), True)
        wrong = (
            None, 3, "it", (), Odd(), list(told), told[0], (told,), ((one, True), [other, False]),
            ((list(one), True), (other, False)), ((one, 1), (other, 0)), ((one, True), (other, False), None),
            ((one, True), (other, False), ((0, 0), True)), ((one, True), (other, False), ("10", True)),
            ((one, True, 1), (other, False)), (Odd(), Odd()), ((one, Odd()), (other, False)), ((Odd(), True), (other, False)),
            {told[0]: 1, told[1]: 2},
        )
        for value in wrong:
            self.assertIs(is_teaching((0, 0, 2), value), False, value)
        self.assertIs(is_teaching((0, 0, 1), told), False)
        self.assertIs(is_teaching((10 ** 20, 0, 2), told), False)

    def test_wrong_triples(self):
        for value, at in WRONG_TRIPLES:
            self.raises_at(InvalidTriple, at, teaching, value)
            self.raises_at(InvalidTriple, at, teaching_count, value)
            self.raises_at(InvalidTriple, at, is_teaching, value, None)
