"""Points 27, 28 and 29: reversible machines, undoing, shifts, all or nothing."""

from endsandround.court import numbers
from endsandround.errors import NotReversible
from endsandround.exactly import exact_from
from endsandround.judge import harmless_all
from endsandround.machines import Machine, effect
from endsandround.reversible import (
    clash,
    free_step,
    is_reversible,
    order_of,
    repeated,
    reversible_numbers,
    shift,
    undone,
)
from tests import brute
from tests.checks import Case

TURNS = Machine(2, [(1, 0), (0, 2), (2, 1)])
NOT = Machine(3, [(1, 0, 0), (0, 0, 1), (2, 2, 1)])
GREAT = 10 ** 18 - 1


def followed(one, other):
    return tuple(other[state] for state in one)


def times(single, n):
    """Done so often, one after another, or undone so often."""
    step = single if n >= 0 else tuple(single.index(state) for state in range(len(single)))
    ends = tuple(range(len(single)))
    for _ in range(abs(n)):
        ends = followed(ends, step)
    return ends


def single(machine, command):
    return tuple(entry[command] for entry in machine.steps)


class UndoingTest(Case):
    def test_is_reversible(self):
        self.assertIs(is_reversible(machine=TURNS), True)
        self.assertIs(is_reversible(NOT), False)
        self.assertIs(is_reversible(Machine(1, [(0,)])), True)
        for machine in (*brute.small_machines(), *brute.reversible_machines(271, 20)):
            wanted = all(len(set(single(machine, c))) == machine.states for c in range(machine.commands))
            self.assertIs(is_reversible(machine), wanted)

    def test_undone(self):
        for machine in brute.reversible_machines(272, 60):
            told = undone(machine)
            self.assertEqual((told.commands, told.states), (machine.commands, machine.states))
            self.is_all_tuples(told.steps)
            for command in range(machine.commands):
                for state in range(machine.states):
                    self.assertEqual(told.steps[machine.steps[state][command]][command], state)
            self.assertEqual(undone(machine=told), machine)

    def test_order_of(self):
        for machine in brute.reversible_machines(273, 60):
            for command in range(machine.commands):
                done = single(machine, command)
                wanted = next(n for n in range(1, 800) if times(done, n) == tuple(range(machine.states)))
                self.assertEqual(order_of(machine, command), wanted)
        rings = Machine(2, [(1, 0), (0, 1), (3, 2), (4, 3), (2, 4), (6, 5), (7, 6), (8, 7), (9, 8), (5, 9)])
        self.assertEqual(order_of(machine=rings, command=0), 30)
        self.assertEqual(order_of(rings, 1), 1)

    def test_repeated(self):
        for machine in brute.reversible_machines(274, 40):
            for command in range(machine.commands):
                for n in range(-7, 8):
                    told = repeated(machine, command, n)
                    self.is_all_tuples(told)
                    self.assertEqual(told, times(single(machine, command), n))
                order = order_of(machine, command)
                for n in (GREAT, -GREAT):
                    self.assertEqual(repeated(machine, command, n), times(single(machine, command), n % order))
        self.assertEqual(repeated(machine=TURNS, command=0, n=3), (1, 0, 2))
        self.assertEqual(repeated(TURNS, 1, GREAT), (0, 2, 1))


class ShiftTest(Case):
    def test_as_the_document_says(self):
        for machine in brute.reversible_machines(281, 30):
            for base in range(machine.commands):
                for command in range(machine.commands):
                    for i in (-3, -1, 0, 1, 2, 5):
                        ahead = followed(times(single(machine, base), i), single(machine, command))
                        wanted = followed(ahead, times(single(machine, base), -i - 1))
                        self.assertEqual(shift(machine, base, command, i), wanted)

    def test_great_numbers(self):
        step = free_step(Machine(2, brute.wheel(7)), 0)
        self.assertEqual(step, 7)
        for i in (GREAT, -GREAT, 10 ** 17):
            told = shift(machine=Machine(2, brute.wheel(7)), base=0, command=1, i=i)
            self.assertEqual(told, shift(Machine(2, brute.wheel(7)), 0, 1, i % 7))
            self.is_all_tuples(told)

    def test_rows_are_told_by_shifts(self):
        for machine in brute.reversible_machines(282, 12, commands=(1, 2, 3)):
            for base in range(machine.commands):
                for length in range(4):
                    for row in brute.rows(machine.commands, length):
                        told = tuple(range(machine.states))
                        for place, command in enumerate(row):
                            told = followed(told, shift(machine, base, command, place))
                        self.assertEqual(followed(told, repeated(machine, base, length)), effect(machine, row))

    def test_free_step(self):
        for machine in brute.reversible_machines(283, 60):
            for base in range(machine.commands):
                told = free_step(machine, base)
                self.assertEqual(order_of(machine, base) % told, 0)
                done = single(machine, base)
                free = [
                    n for n in range(1, told + 1)
                    if all(
                        followed(times(done, n), single(machine, c)) == followed(single(machine, c), times(done, n))
                        for c in range(machine.commands)
                    )
                ]
                self.assertEqual(free, [told])
                for i in range(3):
                    for j in range(-4, 9):
                        same = all(
                            shift(machine, base, c, i) == shift(machine, base, c, j) for c in range(machine.commands)
                        )
                        self.assertEqual(same, (i - j) % told == 0)
        self.assertEqual(free_step(machine=TURNS, base=1), 2)


class AllOrNothingTest(Case):
    def test_clash(self):
        met = {}
        for machine in brute.reversible_machines(291, 80):
            for base in range(machine.commands):
                clashes = []
                for r in range(free_step(machine, base)):
                    for a in range(machine.commands):
                        for c in range(machine.commands):
                            one, other = shift(machine, base, a, 0), shift(machine, base, c, r)
                            if followed(one, other) != followed(other, one):
                                clashes.append((r, a, c))
                self.assertEqual(clash(machine, base), clashes[0] if clashes else None)
                met[clashes[0][0] if clashes else None] = True
        self.assertGreater(len(met), 2)

    def test_they_are_the_numbers(self):
        met = {}
        for machine in brute.reversible_machines(292, 150, commands=(1, 2, 3, 4, 5)):
            triple = numbers(machine)
            met[triple] = True
            for base in range(machine.commands):
                self.assertEqual(reversible_numbers(machine, base), triple)
            self.assertEqual(exact_from(machine), 0)
        self.assertGreater(len(met), 5)
        self.assertIn(None, met)

    def test_all_lengths_are_exact(self):
        for machine in brute.reversible_machines(293, 20, commands=(2, 3), states=(2, 3, 4)):
            triple = reversible_numbers(machine, 0)
            for many in range(6 if machine.commands < 3 else 5):
                wanted = tuple(p for p in brute.reorderings(many) if brute.is_allowed(triple, p))
                self.assertEqual(harmless_all(machine, many), wanted)
                if many < 5:
                    self.assertTrue(all(brute.is_harmless(machine, p) for p in wanted))

    def test_told(self):
        self.assertEqual(reversible_numbers(machine=TURNS, base=0), (0, 0, 2))
        self.assertIsNone(clash(machine=TURNS, base=1))
        shuffles = brute.group_machine((1, 2, 0), (1, 0, 2))
        self.assertIsNone(reversible_numbers(shuffles, 0))
        self.assertIsNone(reversible_numbers(shuffles, 1))
        self.is_all_tuples(clash(shuffles, 0))

    def test_one_command_or_state(self):
        for machine in (Machine(1, [(1,), (2,), (0,)]), Machine(5, [(0,) * 5])):
            self.assertIsNone(clash(machine, 0))
            self.assertEqual(free_step(machine, 0), 1)
            self.assertEqual(reversible_numbers(machine, 0), (0, 0, 1))


class NotReversibleTest(Case):
    def test_the_least_command_that_does_not(self):
        for machine, at in (
            (NOT, 1), (Machine(1, [(0,), (0,)]), 0), (Machine(3, [(0, 1, 1), (1, 0, 1)]), 2),
            (Machine(2, [(1, 0), (1, 1)]), 0),
        ):
            self.assertIs(is_reversible(machine), False)
            self.raises_at(NotReversible, at, undone, machine)
            self.raises_at(NotReversible, at, order_of, machine, 0)
            self.raises_at(NotReversible, at, repeated, machine, 0, 5)
            self.raises_at(NotReversible, at, shift, machine, 0, 0, 1)
            self.raises_at(NotReversible, at, free_step, machine, 0)
            self.raises_at(NotReversible, at, clash, machine, 0)
            self.raises_at(NotReversible, at, reversible_numbers, machine=machine, base=0)
