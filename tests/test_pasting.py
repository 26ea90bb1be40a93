"""Point 53: cut and paste."""

from random import Random

from endsandround.errors import InvalidReordering, Refused
from endsandround.moves import spread
from endsandround.pasting import pasted
from endsandround.reorderings import exchange
from tests import brute
from tests.checks import WRONG_REORDERINGS, Case


def parities(triple, p):
    """For each remainder whether the number of pairs that stand in the other order afterwards is odd."""
    first, last, step = triple
    lots = {}
    for place in range(first, len(p) - last):
        lots.setdefault(place % step, []).append(p[place])
    return {
        len([1 for j in range(len(goals)) for i in range(j) if goals[i] > goals[j]]) % 2 for goals in lots.values()
    }


def all_pastes(triple, many):
    first, last, step = triple
    return [
        ("swap", at, u, 0, v)
        for at in range(first, many - last) for u in range(step, many, step) for v in range(step, many, step)
        if at + u + v <= many - last
    ]


def shuffled(random, triple, many, times):
    """Some reordering that is allowed."""
    first, last, step = triple
    p = list(range(many))
    for _ in range(times):
        i = random.randrange(first, many - last)
        j = random.randrange(i, many - last, step)
        p[i], p[j] = p[j], p[i]
    return tuple(p)


class PastedTest(Case):
    def check(self, triple, p):
        first, last, step = triple
        told = pasted(triple, p)
        self.is_all_tuples(told)
        for name, at, u, w, v in told:
            self.assertEqual((name, w), ("swap", 0))
            self.assertTrue(u > 0 and v > 0 and u % step == 0 and v % step == 0)
            self.assertTrue(first <= at and at + u + v <= len(p) - last)
        self.assertEqual(spread(len(p), told), tuple(p))

    def test_what_pastes_do(self):
        random = Random(531)
        met = {True: 0, False: 0}
        for _ in range(600):
            triple = (random.randrange(4), random.randrange(4), random.choice((1, 1, 2, 3, 4, 5)))
            least = triple[0] + triple[1] + 5 * triple[2] - 2
            many = random.randrange(least, 41)
            p = shuffled(random, triple, many, random.choice((1, 2, 3, 8, 100)))
            can = len(parities(triple, p)) == 1
            met[can] += 1
            if can:
                self.check(triple, p)
            else:
                self.assertIsNone(pasted(triple, p))
        self.assertGreater(min(met.values()), 100)

    def test_all_that_pastes_can_do(self):
        # By trying all pastes, one after another.
        for triple, many in (((0, 0, 1), 5), ((1, 0, 1), 5), ((0, 1, 1), 4), ((0, 0, 2), 8)):
            pastes = [spread(many, [paste]) for paste in all_pastes(triple, many)]
            found = {tuple(range(many))}
            queue = [tuple(range(many))]
            for p in queue:
                for paste in pastes:
                    q = tuple(paste[place] for place in p)
                    if q not in found:
                        found.add(q)
                        queue.append(q)
            random = Random(532)
            some = brute.reorderings(many) if many < 6 else [
                *random.sample(sorted(found), 60), *(shuffled(random, triple, many, 3) for _ in range(60)),
                *(tuple(random.sample(range(many), many)) for _ in range(20)),
            ]
            for p in some:
                self.assertEqual(pasted(triple, p) is not None, p in found)
                if p in found:
                    self.check(triple, p)

    def test_told(self):
        self.assertEqual(pasted(triple=(0, 0, 1), reordering=[0, 1, 2]), ())
        self.check((0, 0, 1), (1, 0, 2))
        self.check((0, 0, 1), (2, 1, 0))
        self.assertIsNone(pasted((1, 0, 1), (1, 0, 2, 3)))
        self.assertIsNone(pasted((0, 0, 2), exchange(8, 2, 4)))
        self.assertIsNone(pasted((0, 0, 2), exchange(8, 2, 3)))
        self.check((0, 0, 2), (2, 3, 0, 1, 4, 5, 6, 7))
        self.check((0, 0, 2), (6, 1, 2, 5, 4, 3, 0, 7))

    def test_step_1_and_greater_ones(self):
        # With step 1 pastes do all that is allowed; with a greater one never an exchange of two entries alone.
        for many in range(3, 6):
            for p in brute.reorderings(many):
                self.check((0, 0, 1), p)
        for step in (2, 3):
            many = 5 * step
            for i in range(many):
                for j in range(i):
                    self.assertIsNone(pasted((0, 0, step), exchange(many, i, j)))

    def test_40_places(self):
        random = Random(533)
        for triple in ((0, 0, 1), (0, 0, 8), (1, 1, 8), (2, 3, 3), (37, 0, 1), (0, 37, 1)):
            for _ in range(5):
                p = shuffled(random, triple, 40, 200)
                if len(parities(triple, p)) == 1:
                    self.check(triple, p)
        self.check((0, 0, 1), tuple(range(40))[::-1])

    def test_too_short_rows(self):
        for first in (0, 2):
            for last in (0, 1):
                for step in (1, 2, 3, 10 ** 18):
                    least = first + last + 5 * step - 2
                    for many in range(min(least, 9)):
                        self.raises_at(Refused, least, pasted, (first, last, step), tuple(range(many)))
                        self.raises_at(Refused, least, pasted, (first, last, step), tuple(range(many))[::-1])
                    if least < 41:
                        self.assertEqual(pasted((first, last, step), tuple(range(least))), ())

    def test_wrong_reorderings(self):
        for value, at in WRONG_REORDERINGS:
            self.raises_at(InvalidReordering, at, pasted, (0, 0, 1), value)
            self.raises_at(InvalidReordering, at, pasted, (9, 9, 9), value)

    def test_nothing_is_changed(self):
        p = [2, 1, 0]
        pasted((0, 0, 1), p)
        self.assertEqual(p, [2, 1, 0])
