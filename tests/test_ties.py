"""Point 41: ties."""

from itertools import combinations
from random import Random

from endsandround.claims import Claims, shown_numbers
from endsandround.errors import Refused
from endsandround.reorderings import back, shifted, three_ring
from endsandround.ties import full_from, is_full, knots
from tests import brute
from tests.checks import Case
from tests.test_claims import some_claims

PAIRS = Claims(2, [(2, 1, 0)])


def slow_knots(claims, length):
    """The knots, by putting pairs together as the document says, until nothing more comes."""
    lots = []
    for s in claims.reorderings:
        if s == tuple(range(len(s))):
            continue
        ring = three_ring(s)
        for before in range(length - len(ring) + 1):
            laid = shifted(ring, before, length - before - len(ring))
            lots.append({place for place in range(length) if laid[place] != place})
    moves = [
        shifted(p, before, length - before - len(s))
        for s in claims.reorderings for p in (s, back(s)) for before in range(length - len(s) + 1)
    ]
    while True:
        more = [{move[one], move[other]} for lot in lots for one, other in combinations(lot, 2) for move in moves]
        joined = []
        for lot in lots + more:
            apart = [other for other in joined if not lot & other]
            joined = apart + [lot.union(*[other for other in joined if lot & other])]
        if sorted(map(sorted, joined)) == sorted(map(sorted, lots)):
            return tuple(sorted(tuple(sorted(lot)) for lot in lots))
        lots = joined


def slow_full(claims, length):
    triple = shown_numbers(claims)
    if triple is None:
        return True
    first, last, step = triple
    found = slow_knots(claims, length)
    ringed = [place for knot in found for place in knot]
    return (
        all(place in ringed for place in range(first, length - last))
        and all(len(knot) > claims.commands for knot in found)
        and len(found) == step
    )


class TiesTest(Case):
    def test_as_the_document_says(self):
        random = Random(411)
        met = {True: 0, False: 0}
        for _ in range(70):
            claims = some_claims(random, commands=(2, 3, 5), most=2, places=4)
            for length in (0, 1, 3, 5, 6, 7, 9, 11):
                told = knots(claims, length)
                self.is_all_tuples(told)
                self.assertEqual(told, slow_knots(claims, length))
                self.assertIs(is_full(claims, length), slow_full(claims, length))
                met[is_full(claims, length)] += 1
        self.assertGreater(min(met.values()), 30)

    def test_told(self):
        self.assertEqual(knots(claims=PAIRS, length=5), ((0, 2, 4),))
        self.assertEqual(knots(PAIRS, 6), ((0, 2, 4), (1, 3, 5)))
        self.assertEqual(knots(PAIRS, 4), ())
        self.assertEqual([is_full(claims=PAIRS, length=n) for n in range(8)], [False] * 6 + [True] * 2)
        self.assertEqual(full_from(claims=PAIRS), 6)
        # A knot must have more places than there are commands.
        self.assertEqual([full_from(Claims(commands, [(2, 1, 0)])) for commands in (2, 3, 4, 5)], [6, 8, 10, 12])
        self.assertEqual(knots(Claims(2, [(0, 2, 1, 3)]), 5), ((1, 2, 3),))

    def test_all_places_must_be_ringed(self):
        # At seven places there is one knot, as the step tells, but the place 0 is not ringed.
        claims = Claims(2, [(0, 2, 1), (7, 1, 2, 3, 4, 5, 6, 0)])
        self.assertEqual(shown_numbers(claims), (0, 0, 1))
        self.assertEqual(knots(claims, 7), ((1, 2, 3, 4, 5, 6),))
        self.assertIs(is_full(claims, 7), False)
        self.assertEqual(knots(claims, 8), (tuple(range(8)),))
        self.assertEqual(full_from(claims), 8)

    def test_idle_claims(self):
        for claims in (Claims(2, []), Claims(2, [(), (0, 1, 2)])):
            self.assertEqual(knots(claims, 9), ())
            self.assertEqual([is_full(claims, n) for n in (0, 1, 120)], [True] * 3)
            self.assertEqual(full_from(claims), 0)

    def test_knots_lie_in_bags_and_full_lengths_stay_full(self):
        random = Random(412)
        for _ in range(60):
            claims = some_claims(random, commands=(2, 4), places=8)
            triple = shown_numbers(claims)
            least = full_from(claims)
            self.assertLessEqual(least, 120)
            for length in (least - 2, least - 1):
                self.assertFalse(length >= 0 and is_full(claims, length))
            for length in (least, least + 1, least + 5, 120):
                self.assertTrue(is_full(claims, length))
            for length in range(0, least + 3, 3):
                for knot in knots(claims, length):
                    self.assertEqual(len({place % triple[2] for place in knot}), 1)
                    self.assertTrue(triple[0] <= knot[0] and knot[-1] < length - triple[1])

    def test_full_lengths_have_all_that_is_allowed(self):
        # At a full length all that is allowed follows from the claims: their machines of lots show it.
        random = Random(413)
        met = 0
        for machine in (*brute.near_machines(413, 80), *brute.small_machines()):
            if machine.commands != 2:
                continue
            claims = Claims(2, [random.choice(((1, 0), (0, 2, 1), (2, 1, 0), (1, 2, 0)))])
            least = full_from(claims)
            if least > 7 or not all(brute.is_harmless(machine, p) for p in claims.reorderings):
                continue
            for length in (least, least + 1):
                for _ in range(6):
                    p = tuple(random.sample(range(length), length))
                    if brute.is_allowed(shown_numbers(claims), p):
                        self.assertTrue(brute.is_harmless(machine, p))
                        met += 1
        self.assertGreater(met, 40)

    def test_length_120(self):
        claims = Claims(5, [(7, 1, 2, 3, 4, 5, 6, 0), (0, 1, 2, 3, 4, 5, 6, 7)])
        found = knots(claims, 120)
        self.assertEqual([len(knot) for knot in found], [18, 17, 17, 17, 17, 17, 17])
        self.assertEqual(full_from(claims), 42)
        six = [tuple(Random(seed).sample(range(8), 8)) for seed in range(6)]
        self.assertEqual(knots(Claims(5, six), 120), (tuple(range(120)),))

    def test_refused(self):
        # Many commands need many places in each knot.
        for commands, least in ((16, 119), (17, None)):
            claims = Claims(commands, [(7, 1, 2, 3, 4, 5, 6, 0)])
            if least is None:
                self.raises_at(Refused, 120, full_from, claims)
                self.assertFalse(is_full(claims, 120))
            else:
                self.assertEqual(full_from(claims), least)
