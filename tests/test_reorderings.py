"""Points 7 and 8: reorderings, rings and frames."""

import unittest
from math import gcd

from endsandround.errors import InvalidReordering, Refused
from endsandround.reorderings import (
    after,
    back,
    checked_reordering,
    exchange,
    frame,
    idle,
    is_reordering,
    reordered,
    rings,
    shifted,
    three_ring,
)
from tests import brute
from tests.checks import Case

WRONG = (
    ((0, 2), 1),
    ((1, 1), 1),
    ((0, 0, 1), 1),
    ((1,), 0),
    ((-1, 0), 0),
    ((False, 1), 0),
    ((0, True), 1),
    ((1, 0, 4, "x"), 2),
    ((1, 0, 3, "x"), 3),
    (("1", 0), 0),
    ((1, 0.0), 1),
    ((1, None), 1),
    ((1, [0]), 1),
    ([2, 0, 0], 2),
    ("10", 0),
    (None, 0),
    (7, 0),
    ({0: 0}, 0),
    (range(3), 0),
)


class ReorderingTest(Case):
    def test_is_reordering(self):
        for value in ((), (0,), (1, 0), (2, 0, 1), tuple(range(9999, -1, -1))):
            self.assertIs(is_reordering(value), True)
        self.assertIs(is_reordering(value=(0,)), True)
        self.assertIs(is_reordering([0, 1]), False)
        for value, _ in WRONG:
            self.assertIs(is_reordering(value), False)

    def test_checked_reordering(self):
        self.assertEqual(checked_reordering([2, 0, 1]), (2, 0, 1))
        self.assertEqual(checked_reordering(value=()), ())
        self.assertIs(type(checked_reordering([0])), tuple)
        for value, at in WRONG:
            self.raises_at(InvalidReordering, at, checked_reordering, value)

    def test_all_are_refused_alike(self):
        for value, at in WRONG:
            for function in (back, rings, frame, three_ring):
                self.raises_at(InvalidReordering, at, function, value)
            self.raises_at(InvalidReordering, at, reordered, (1, 2, 3, 4, 5, 6), value)
            self.raises_at(InvalidReordering, at, shifted, value, 1, 1)
            self.raises_at(InvalidReordering, at, after, value, (0, 0))
            self.raises_at(InvalidReordering, at, after, (0, 1, 2, 3, 4, 5), value)

    def test_lists_are_taken(self):
        self.assertEqual(reordered([5, 6], [1, 0]), (6, 5))
        self.assertEqual(after([1, 0], [1, 0]), (0, 1))
        self.assertEqual(back([1, 2, 0]), (2, 0, 1))
        self.assertEqual(shifted([1, 0], 1, 0), (0, 2, 1))
        self.assertEqual(rings([1, 0]), ((0, 1),))
        self.assertEqual(frame([1, 0]), (0, 0, 1))
        self.assertEqual(three_ring([0, 2, 1]), three_ring((0, 2, 1)))

    def test_idle_and_exchange(self):
        self.assertEqual(idle(0), ())
        self.assertEqual(idle(many=3), (0, 1, 2))
        self.assertEqual(exchange(4, 1, 3), (0, 3, 2, 1))
        self.assertEqual(exchange(many=2, i=1, j=0), (1, 0))

    def test_reordered(self):
        self.assertEqual(reordered(("a", "b", "c"), (2, 0, 1)), ("b", "c", "a"))
        self.assertEqual(reordered(row=[None, [1]], reordering=(1, 0)), ([1], None))
        self.assertEqual(reordered((), ()), ())
        self.raises_at(Refused, 2, reordered, (1, 2, 3), (1, 0))
        self.raises_at(Refused, 3, reordered, [], (1, 0, 2))
        for p in brute.reorderings(4):
            self.assertEqual(reordered((3, 1, 4, 5), p), brute.moved((3, 1, 4, 5), p))

    def test_after_back(self):
        row = ("a", "b", "c", "d")
        for one in brute.reorderings(4):
            self.assertEqual(after(one, back(one)), idle(4))
            self.assertEqual(after(back(one), one), idle(4))
            for other in brute.reorderings(4):
                self.assertEqual(reordered(row, after(one, other)), reordered(reordered(row, one), other))
        self.assertEqual(after(one=(1, 2, 0), other=(1, 0, 2)), (0, 2, 1))
        self.assertEqual(back(reordering=()), ())

    def test_after_refuses_unlike_numbers_of_places(self):
        self.raises_at(Refused, 0, after, (0, 1), (0, 1, 2))
        self.raises_at(Refused, 0, after, (), (0,))
        self.raises_at(InvalidReordering, 1, after, (0, 1, 2), (0, 0))

    def test_shifted(self):
        self.assertEqual(shifted((1, 0), 2, 1), (0, 1, 3, 2, 4))
        self.assertEqual(shifted(reordering=(), before=1, behind=2), (0, 1, 2))
        self.assertEqual(shifted((2, 1, 0), 0, 0), (2, 1, 0))

    def test_results_are_tuples(self):
        for value in (idle(3), exchange(3, 0, 2), reordered([1, 2], (1, 0)), rings((1, 0)), frame((1, 0))):
            self.assertIs(type(value), tuple)
            self.is_all_tuples(value)


class RingTest(Case):
    def test_rings(self):
        self.assertEqual(rings(()), ())
        self.assertEqual(rings(idle(5)), ())
        self.assertEqual(rings((0, 3, 4, 1, 5, 2)), ((1, 3), (2, 4, 5)))
        self.assertEqual(rings(reordering=(2, 0, 1)), ((0, 2, 1),))

    def test_rings_tell_the_reordering(self):
        for p in brute.reorderings(5):
            told = list(range(5))
            for ring in rings(p):
                self.assertEqual(ring[0], min(ring))
                self.assertGreater(len(ring), 1)
                for at, place in enumerate(ring):
                    told[place] = ring[(at + 1) % len(ring)]
            self.assertEqual(tuple(told), p)
            self.assertEqual(rings(p), tuple(sorted(rings(p))))

    def test_frame(self):
        self.assertIsNone(frame(()))
        self.assertIsNone(frame(idle(4)))
        self.assertEqual(frame((0, 3, 2, 1, 4, 5)), (1, 2, 2))
        self.assertEqual(frame(reordering=(3, 1, 2, 0)), (0, 0, 3))
        for p in brute.reorderings(5):
            moved = [at for at in range(5) if p[at] != at]
            if moved:
                step = gcd(*[p[at] - at for at in moved])
                self.assertEqual(frame(p), (moved[0], 4 - moved[-1], step))

    def test_three_ring(self):
        for many in range(2, 6):
            for p in brute.reorderings(many)[1:]:
                first, last, _ = frame(p)
                high = many - 1 - last
                d = high - first
                s, t = shifted(p, 0, d), shifted(p, d, 0)
                told = three_ring(p)
                self.assertEqual(told, after(after(s, t), after(back(s), back(t))))
                moved = [at for at in range(many + d) if told[at] != at]
                self.assertEqual(len(moved), 3)
                self.assertIn(high, moved)
        self.assertEqual(three_ring(reordering=(1, 0)), (1, 2, 0))

    def test_three_ring_of_idle_ones(self):
        self.raises_at(Refused, 0, three_ring, ())
        self.raises_at(Refused, 0, three_ring, (0, 1, 2))

    def test_many_places(self):
        whole = tuple(range(9999, -1, -1))
        self.assertEqual(frame(whole), (0, 0, 1))
        self.assertEqual(len(rings(whole)), 5000)
        self.assertEqual(back(whole), whole)
        self.assertEqual(after(whole, whole), idle(10000))
        told = three_ring(whole)
        self.assertEqual(len(told), 19999)
        self.assertEqual(len([at for at in range(19999) if told[at] != at]), 3)

    def test_harmless_ones_make_harmless_ones(self):
        for machine in brute.near_machines(5, 60, commands=(2,), states=(2, 3)):
            for p in brute.reorderings(3)[1:]:
                if brute.is_harmless(machine, p):
                    for q in (back(p), after(p, p), shifted(p, 1, 1), three_ring(p)):
                        self.assertTrue(brute.is_harmless(machine, q))


if __name__ == "__main__":
    unittest.main()
