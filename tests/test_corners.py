"""Points 17 and 18: corners, contexts left out, corner papers."""

from endsandround.corners import corner_paper, corners, is_corner_paper, left_out
from endsandround.court import exchange_harm, is_exchange_harm, may_exchange, numbers
from endsandround.layers import settled_behind, settled_joined
from endsandround.machines import Machine
from tests import brute
from tests.checks import Case

EXAMPLE = Machine(2, [(1, 2), (2, 3), (2, 2), (2, 2)])
STAIRS = Machine(2, brute.short_memory(2, 3))
NONE = Machine(2, [(0, 1), (0, 0)])
TURNS = Machine(2, [(1, 0), (0, 2), (2, 1)])
BEYOND = brute.beside(*[brute.wheel(step) for step in (2, 3, 5, 7, 11, 13)])


class Odd:
    """Something else."""


def some_machines(seed):
    yield from brute.near_machines(seed, 60)
    yield from brute.random_machines(seed, 30)
    yield brute.beside(brute.first_memory(2), brute.last_memory(2), brute.wheel(2))
    yield brute.beside(brute.short_memory(1, 4), brute.short_memory(3, 2), brute.wheel(2))
    yield brute.beside(brute.short_memory(2, 3), brute.first_memory(1), brute.last_memory(1))
    yield from (EXAMPLE, STAIRS, NONE, TURNS, Machine(1, [(1,), (0,)]), Machine(3, [(0, 0, 0)]))


class CornersTest(Case):
    def test_as_by_the_contexts_around(self):
        sizes = {}
        for machine in some_machines(171):
            u, v = settled_behind(machine), settled_joined(machine)
            for distance in (1, 2, 3, 4, 6):
                lets = {
                    (x, y): may_exchange(machine, x, distance, y) for x in range(u + 3) for y in range(v + 3)
                }
                wanted = tuple(
                    (x, y) for x, y in sorted(lets)
                    if lets[x, y] and not lets.get((x - 1, y), False) and not lets.get((x, y - 1), False)
                )
                found = corners(machine, distance)
                self.assertEqual(found, wanted)
                self.is_all_tuples(found)
                sizes[len(found)] = True
                for (x, y), let in lets.items():
                    self.assertEqual(let, any(x >= a and y >= b for a, b in found))
        self.assertGreaterEqual(set(sizes), {0, 1, 2, 3})

    def test_as_by_all_rows(self):
        for machine in (*brute.near_machines(172, 25, commands=(2,), states=(2, 3, 4)), EXAMPLE):
            for distance in (1, 2):
                found = corners(machine, distance)
                for x in range(4):
                    for y in range(4):
                        wanted = any(x >= a and y >= b for a, b in found)
                        self.assertEqual(brute.may_exchange(machine, x, distance, y), wanted)

    def test_told(self):
        self.assertEqual(corners(machine=EXAMPLE, distance=1), ((0, 1), (1, 0)))
        self.assertEqual(corners(EXAMPLE, 2), ((0, 0),))
        self.assertEqual(corners(STAIRS, 1), ((0, 3), (1, 2), (2, 0)))
        memories = brute.beside(brute.first_memory(3), brute.last_memory(2), brute.wheel(2))
        self.assertEqual([corners(memories, distance) for distance in (1, 2, 3, 4)], [(), ((3, 2),), (), ((3, 2),)])

    def test_there_are_corners_just_for_multiples_of_the_step(self):
        for machine in some_machines(173):
            triple = numbers(machine)
            for distance in range(1, 9):
                found = corners(machine, distance)
                self.assertEqual(bool(found), triple is not None and distance % triple[2] == 0)
            if triple is not None:
                found = corners(machine, triple[2])
                self.assertEqual((found[0][0], found[-1][1]), triple[:2])

    def test_without_numbers_and_with_one_command_or_state(self):
        self.assertEqual(corners(NONE, 5000), ())
        self.assertEqual(corners(Machine(1, [(1,), (2,), (2,)]), 5000), ((0, 0),))
        self.assertEqual(corners(Machine(5, [(0,) * 5]), 1), ((0, 0),))

    def test_great_distances(self):
        self.assertEqual(corners(TURNS, 5000), ((0, 0),))
        self.assertEqual(corners(TURNS, 4999), ())
        self.assertEqual(corners(brute.beside(brute.short_memory(2, 3), brute.last_memory(2)), 5000), ((0, 2),))

    def test_no_rounds_are_needed(self):
        self.assertEqual(corners(BEYOND, 5000), ())
        self.assertEqual(left_out(BEYOND, 1), ((0, 0),))
        self.assertIs(is_corner_paper(BEYOND, 7, corner_paper(BEYOND, 7)), True)


class LeftOutTest(Case):
    def test_told(self):
        self.assertEqual(left_out(machine=EXAMPLE, distance=1), ((0, 0),))
        self.assertEqual(left_out(STAIRS, 1), ((0, 2), (1, 1)))
        memories = brute.beside(brute.first_memory(3), brute.last_memory(2))
        u, v = settled_behind(memories), settled_joined(memories)
        self.assertEqual(left_out(memories, 1), ((2, v), (u, 1)))

    def test_without_corners(self):
        self.assertEqual(left_out(NONE, 1), ((settled_behind(NONE), settled_joined(NONE)),))
        memories = brute.beside(brute.first_memory(3), brute.last_memory(2), brute.wheel(2))
        self.assertEqual(left_out(memories, 3), ((settled_behind(memories), settled_joined(memories)),))

    def test_with_one_corner_that_leaves_nothing_out(self):
        self.assertEqual(left_out(Machine(1, [(0,)]), 3), ())
        self.assertEqual(left_out(TURNS, 2), ())

    def test_as_the_document_says(self):
        for machine in some_machines(181):
            u, v = settled_behind(machine), settled_joined(machine)
            for distance in (1, 2, 3):
                found = corners(machine, distance)
                wanted = [(u, v)]
                if found:
                    wanted = [(found[0][0] - 1, v)] if found[0][0] != 0 else []
                    wanted += [(found[i + 1][0] - 1, found[i][1] - 1) for i in range(len(found) - 1)]
                    wanted += [(u, found[-1][1] - 1)] if found[-1][1] != 0 else []
                self.assertEqual(left_out(machine, distance), tuple(wanted))
                for before, after in wanted:
                    self.assertIs(may_exchange(machine, before, distance, after), False)


class CornerPaperTest(Case):
    def test_papers(self):
        for machine in some_machines(182):
            for distance in (1, 2, 5):
                paper = corner_paper(machine, distance)
                self.is_all_tuples(paper)
                found, harms = paper
                contexts = left_out(machine, distance)
                self.assertEqual(found, corners(machine, distance))
                self.assertEqual(len(harms), len(contexts))
                for (before, after), harm in zip(contexts, harms):
                    self.assertIs(is_exchange_harm(machine, before, distance, after, harm), True)
                self.assertIs(is_corner_paper(machine, distance, paper), True)

    def test_named_arguments_and_great_distances(self):
        paper = corner_paper(machine=NONE, distance=5000)
        self.assertIs(is_corner_paper(machine=NONE, distance=5000, value=paper), True)
        self.assertIs(is_corner_paper(NONE, 4999, paper), False)
        self.assertEqual(corner_paper(TURNS, 5000), (((0, 0),), ()))

    def test_what_is_no_paper(self):
        found, harms = corner_paper(STAIRS, 1)
        self.assertEqual((len(found), len(harms)), (3, 2))
        (one, other), (filling, state) = harms, harms[0]
        wrong = (
            None, 0, "paper", (), Odd(), [found, harms], (found,), (found, harms, 0), (list(found), harms),
            (found, list(harms)), (found, harms[:1]), (found, (*harms, one)), (found, (other, one)), (found, None),
            (found, (one, None)), (found, (list(one), other)), (found, ((list(filling), state), other)),
            (found, ((filling, True), other)), (None, harms), (Odd(), harms), (found, Odd()), ((Odd(), *found), harms),
            (tuple(list(context) for context in found), harms), (found[::-1], harms), ((*found, found[-1]), harms),
            (((0, 3, 0), *found[1:]), harms), (((False, 3), *found[1:]), harms), (((0.0, 3), *found[1:]), harms),
            (((-1, 3), *found[1:]), harms), (((0, None), *found[1:]), harms), ("abc", harms), (harms, found),
        )
        for value in wrong:
            self.assertIs(is_corner_paper(STAIRS, 1, value), False, value)

    def test_other_corners_with_the_harms_that_they_want(self):
        u, v = settled_behind(STAIRS), settled_joined(STAIRS)
        found = corners(STAIRS, 1)
        self.assertEqual((u, v), (5, 5))
        told = (
            found, found[:2], found[1:], found[:1], found[::2], (), ((0, 2), (1, 1)), ((0, 4), (1, 2), (2, 0)),
            ((0, 3), (1, 2), (2, 1)), ((0, 3), (1, 2), (3, 0)), ((0, 3), (1, 2), (2, 0), (3, 0)), ((u, v),),
            ((0, 3), (1, 3), (2, 0)), ((0, v + 1), *found[1:]), (*found[:2], (u + 1, 0)), ((0, 10 ** 40), *found[1:]),
            (*found[:2], (10 ** 40, 0)), ((1, 2), (2, 0)), ((2, 0), (1, 2)), ((0, 3), (0, 2), (2, 0)),
            ((0, 4), (0, 3), (1, 2), (2, 0)), ((0, 3), (1, 3), (1, 2), (2, 0)), ((0, 3), (1, 2), (2, 0), (2, 0)),
        )
        for contexts in told:
            befores = [x for x, _ in contexts] + [u + 1]
            afters = [v + 1] + [y for _, y in contexts]
            harms = []
            for x, y in zip(befores, afters):
                if x > 0 and y > 0 and max(x, y) < 100:
                    harms.append(exchange_harm(STAIRS, x - 1, 1, y - 1))
            self.assertIs(is_corner_paper(STAIRS, 1, (contexts, tuple(harms))), contexts == found, contexts)

    def test_contexts_beyond_the_borders(self):
        machine = Machine(2, brute.first_memory(1))
        harm = exchange_harm(machine, 0, 1, settled_joined(machine))
        self.assertIs(is_corner_paper(machine, 1, (((1, 0),), (harm,))), True)
        v = settled_joined(machine)
        self.assertIs(is_corner_paper(NONE, 1, (((0, 0),), ())), False)
        longer = exchange_harm(machine, 0, 1, v + 1)
        self.assertIs(is_corner_paper(machine, 1, (((1, 0),), (longer,))), False)
        idle = Machine(2, [(0, 0)])
        self.assertIs(is_corner_paper(idle, 1, (((0, 0),), ())), True)
        self.assertIs(is_corner_paper(idle, 1, (((0, 1),), ())), False)
        self.assertIs(is_corner_paper(idle, 1, (((0, 1), (1, 0)), (((0, 0), 0),))), False)

    def test_one_corner_short(self):
        found, harms = corner_paper(EXAMPLE, 1)
        self.assertEqual(found, ((0, 1), (1, 0)))
        self.assertIs(is_corner_paper(EXAMPLE, 1, (found[:1], harms)), False)
        self.assertIs(is_corner_paper(EXAMPLE, 1, ((), harms)), False)
        u, v = settled_behind(EXAMPLE), settled_joined(EXAMPLE)
        self.assertIsNone(exchange_harm(EXAMPLE, u, 1, v))
