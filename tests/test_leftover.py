"""Points 45 and 46: triples left, what to try next."""

from math import gcd
from random import Random

from endsandround.errors import InvalidReordering, Refused
from endsandround.findings import agrees, widest
from endsandround.leftover import left_count, next_reordering, pinned, split, triples_left
from endsandround.reorderings import exchange, frame
from tests import brute
from tests.checks import WRONG_REORDERINGS, Case
from tests.test_findings import WRONG_FINDINGS, agreeing, framed, some_findings

FUNCTIONS = (triples_left, left_count, pinned, next_reordering)


def within(triple):
    first, last, step = triple
    return [(a, b, s) for a in range(first + 1) for b in range(last + 1) for s in range(1, step + 1) if step % s == 0]


class LeftTest(Case):
    def test_as_by_all_triples(self):
        random = Random(451)
        counts = set()
        for _ in range(400):
            told = some_findings(random, harmless=0.6)
            if widest(told) is None:
                for function in FUNCTIONS:
                    self.raises_at(Refused, 0, function, told)
                self.raises_at(Refused, 0, split, told, (1, 0))
                continue
            left = tuple(triple for triple in agreeing(told) if triple is not None)
            self.is_all_tuples(triples_left(told))
            self.assertEqual(triples_left(told), left)
            self.assertEqual(left_count(told), len(left))
            self.assertEqual(pinned(told), left[0] if len(left) == 1 else None)
            counts.add(min(len(left), 3))
            for _ in range(3):
                p = tuple(random.sample(range(5), 5)) if random.random() < 0.3 else exchange(6, *random.sample(range(6), 2))
                allowing = [triple for triple in left if brute.is_allowed(triple, p)]
                self.assertEqual(split(told, p), (len(allowing), len(left) - len(allowing)))
        self.assertEqual(counts, {0, 1, 2, 3})

    def test_told(self):
        told = [[[2, 1, 0], True]]
        self.assertEqual(triples_left(told=told), ((0, 0, 1), (0, 0, 2)))
        self.assertEqual(left_count(told=told), 2)
        self.assertIsNone(pinned(told=told))
        self.assertEqual(split(told=told, reordering=[1, 0]), (1, 1))
        self.assertEqual(split(told, (0, 1)), (2, 0))
        self.assertEqual(next_reordering(told=told), (1, 0))
        self.assertEqual(pinned(told + [((1, 0), False)]), (0, 0, 2))
        self.assertEqual(pinned(told + [((1, 0), True)]), (0, 0, 1))
        self.is_all_tuples((split(told, [1, 0]), next_reordering(told)))

    def test_none_left(self):
        for more in ([((0, 1), False)], [((2, 1, 0), False)], [((0, 3, 2, 1), False)]):
            told = [((2, 1, 0), True), *more]
            self.assertEqual(triples_left(told), ())
            self.assertEqual(left_count(told), 0)
            self.assertIsNone(pinned(told))
            self.assertIsNone(next_reordering(told))
            self.assertEqual(split(told, (1, 0)), (0, 0))

    def test_wide_ones(self):
        told = [(framed(30, 30, 900), True)]
        self.assertEqual(left_count(told), 31 * 31 * 27)
        random = Random(452)
        for _ in range(60):
            told.append((framed(random.randrange(31), random.randrange(31), random.choice((1, 2, 3, 4, 5, 6, 9, 900))), False))
        frames = [frame(p) for p, _ in told[1:]]
        wanted = [
            (a, b, s) for a, b, s in within((30, 30, 900))
            if not any(f >= a and n >= b and d % s == 0 for f, n, d in frames)
        ]
        self.assertEqual(list(triples_left(told)), wanted)
        turned = tuple((at + 500) % 1000 for at in range(1000))
        self.assertEqual(left_count([(turned, True)]), 12)

    def test_wrong_findings(self):
        for value, at in WRONG_FINDINGS:
            for function in FUNCTIONS:
                self.raises_at(InvalidReordering, at, function, value)
            self.raises_at(InvalidReordering, at, split, value, None)

    def test_errors_of_all_arguments_come_before_refused(self):
        for value, at in WRONG_REORDERINGS:
            self.raises_at(InvalidReordering, at, split, [], value)
            self.raises_at(InvalidReordering, at, split, [((2, 1, 0), True)], value)
        self.raises_at(InvalidReordering, 1, split, [((1, 0), True), None], (0, 0, 1))
        self.raises_at(Refused, 0, split, [], ())

    def test_nothing_is_changed(self):
        told, p = [[[2, 1, 0], True]], [1, 0]
        for function in FUNCTIONS:
            function(told)
        split(told, p)
        self.assertEqual((told, p), ([[[2, 1, 0], True]], [1, 0]))


class NextTest(Case):
    def best(self, told):
        """What is to be tried next, by trying all."""
        left = triples_left(told)
        if len(left) < 2:
            return None
        lesser = []
        for triple in within(widest(told)):
            p = framed(*triple)
            allowing = len([t for t in left if brute.is_allowed(t, p)])
            lesser.append(min(allowing, len(left) - allowing))
        self.assertGreater(max(lesser), 0)
        return framed(*within(widest(told))[lesser.index(max(lesser))])

    def test_as_by_trying_all(self):
        random = Random(461)
        met = 0
        for _ in range(300):
            told = some_findings(random, harmless=0.6)
            if widest(told) is not None:
                self.assertEqual(next_reordering(told), self.best(told))
                met += next_reordering(told) is not None
        for _ in range(25):
            told = [(framed(random.randrange(6), random.randrange(6), random.choice((1, 2, 6, 12, 30))), True)]
            triple = widest(told)
            for _ in range(random.randrange(4)):
                other = random.choice(within(triple))
                told.append((framed(*other), False))
            self.assertEqual(next_reordering(told), self.best(told))
        self.assertGreater(met, 25)

    def test_whoever_tries_comes_to_the_numbers(self):
        random = Random(462)
        for start in ((4, 3, 12), (0, 0, 900), (9, 9, 1), (3, 0, 60)):
            for _ in range(4):
                hidden = random.choice(within(start))
                told = [(framed(*start), True)]
                for _ in range(100):
                    tried = next_reordering(told)
                    if tried is None:
                        break
                    told.append((tried, brute.is_allowed(hidden, tried)))
                self.assertEqual(pinned(told), hidden)
                self.assertTrue(agrees(hidden, told))

    def test_1000_triples(self):
        told = [(framed(9, 9, 48), True)]
        self.assertEqual(left_count(told), 1000)
        p = next_reordering(told)
        allowing, others = split(told, p)
        self.assertEqual(allowing + others, 1000)
        self.assertGreaterEqual(min(allowing, others), 400)
        a, b, s = frame(p)
        self.assertEqual(p, framed(a, b, s))
        self.assertTrue(a <= 9 and b <= 9 and gcd(s, 48) == s)
