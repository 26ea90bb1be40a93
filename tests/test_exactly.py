"""Points 19 and 20: exact lengths, and what shows inexact ones."""

from endsandround.corners import corners
from endsandround.court import exchange_harm, may_exchange, numbers
from endsandround.errors import Refused
from endsandround.exactly import exact_from, inexact_harm, inexact_lengths, is_exact, is_inexact_harm
from endsandround.layers import settled_behind, settled_joined
from endsandround.machines import Machine
from tests import brute
from tests.checks import Case

EXAMPLE = Machine(2, [(1, 2), (2, 3), (2, 2), (2, 2)])
STAIRS = Machine(2, brute.short_memory(2, 3))
FRAMED = brute.beside(brute.short_memory(2, 4), brute.first_memory(1), brute.last_memory(1), brute.wheel(2))
NONE = Machine(2, [(0, 1), (0, 0)])
BEYOND = brute.beside(*[brute.wheel(step) for step in (2, 3, 5, 7, 11, 13)])
HUGE = 10 ** 60


class Odd:
    """Something else."""


def some_machines(seed):
    yield from brute.small_machines()
    yield from brute.near_machines(seed, 40, states=(3, 4))
    yield from (EXAMPLE, STAIRS, NONE, brute.one_word((0, 1, 0, 1), (1, 0, 1, 0)))
    yield from (Machine(2, brute.short_memory(1, 4)), brute.beside(brute.short_memory(1, 3), brute.wheel(2)))
    yield brute.beside(brute.short_memory(2, 2), brute.first_memory(1))


class ExactTest(Case):
    def test_as_by_all_rows(self):
        found = {True: 0, False: 0}
        for machine in some_machines(191):
            triple = numbers(machine)
            for length in range(6 if machine.commands < 3 else 5):
                wanted = all(
                    brute.is_harmless(machine, p) == brute.is_allowed(triple, p) for p in brute.reorderings(length)
                )
                self.assertIs(is_exact(machine, length), wanted)
                found[wanted] += 1
        self.assertGreater(found[False], 10)

    def test_as_by_the_contexts(self):
        for machine in (*some_machines(192), FRAMED):
            triple = numbers(machine)
            low_high = []
            for length in range(25):
                wanted = True
                if triple is not None:
                    first, last, step = triple
                    wanted = all(
                        may_exchange(machine, x, step, length - 1 - step - x)
                        for x in range(first, length - step - last)
                    )
                self.assertIs(is_exact(machine, length), wanted)
                if not wanted:
                    low_high.append(length)
            span = inexact_lengths(machine)
            if not low_high:
                self.assertIsNone(span)
                self.assertEqual(exact_from(machine), 0)
            else:
                self.assertEqual(span, (low_high[0], low_high[-1]))
                self.assertEqual(low_high, list(range(span[0], span[1] + 1)))
                self.assertEqual(span[0], sum(triple) + 1)
                self.assertEqual(exact_from(machine), span[1] + 1)
                self.assertLessEqual(exact_from(machine), triple[2] + settled_behind(machine) + settled_joined(machine))

    def test_the_example_of_the_document(self):
        machine = Machine(2, [(1, 2), (2, 3), (2, 2), (2, 2)])
        told = numbers(machine), corners(machine, 1), exact_from(machine), inexact_lengths(machine)
        self.assertEqual(told, ((0, 0, 1), ((0, 1), (1, 0)), 3, (2, 2)))

    def test_told(self):
        self.assertEqual(numbers(FRAMED), (1, 1, 2))
        self.assertEqual(corners(FRAMED, 2), ((1, 2), (2, 1)))
        self.assertEqual(inexact_lengths(machine=FRAMED), (5, 5))
        self.assertEqual(exact_from(machine=FRAMED), 6)
        self.assertEqual(inexact_lengths(STAIRS), (2, 4))
        self.assertEqual([is_exact(machine=STAIRS, length=n) for n in range(7)], [True] * 2 + [False] * 3 + [True] * 2)
        self.is_all_tuples(inexact_lengths(STAIRS))

    def test_without_numbers_and_with_one_command_or_state(self):
        for machine in (NONE, Machine(1, [(1,), (2,), (0,), (0,)]), Machine(4, [(0,) * 4])):
            self.assertEqual(exact_from(machine), 0)
            self.assertIsNone(inexact_lengths(machine))
            for length in (0, 1, 2, 5, HUGE):
                self.assertIs(is_exact(machine, length), True)

    def test_great_lengths(self):
        for machine in (EXAMPLE, STAIRS, FRAMED):
            self.assertIs(is_exact(machine, HUGE), True)

    def test_great_steps(self):
        machine = brute.beside(brute.short_memory(1, 60), brute.wheel(50))
        self.assertEqual(numbers(machine), (0, 0, 50))
        self.assertEqual(inexact_lengths(machine), (51, 60))
        self.assertEqual(exact_from(machine), 61)

    def test_refused(self):
        self.raises_at(Refused, 5000, is_exact, BEYOND, 0)
        self.raises_at(Refused, 5000, exact_from, BEYOND)
        self.raises_at(Refused, 5000, inexact_lengths, BEYOND)
        self.raises_at(Refused, 5000, inexact_harm, BEYOND, 0)
        self.raises_at(Refused, 5000, is_inexact_harm, BEYOND, 0, None)


class InexactHarmTest(Case):
    def test_harms(self):
        shown = 0
        for machine in (*some_machines(201), FRAMED):
            triple = numbers(machine)
            for length in (*range(9), 10000):
                told = inexact_harm(machine, length)
                if is_exact(machine, length):
                    self.assertIsNone(told)
                    continue
                shown += 1
                self.is_all_tuples(told)
                first, last, step = triple
                place, filling, state = told
                self.assertTrue(first <= place <= length - 1 - step - last)
                self.assertEqual(len(filling), length)
                changed = brute.swapped(filling, place, place + step)
                self.assertNotEqual(brute.run(machine, state, filling), brute.run(machine, state, changed))
                self.assertIs(is_inexact_harm(machine, length, told), True)
        self.assertGreater(shown, 10)

    def test_is_inexact_harm_as_by_trying(self):
        for machine in (EXAMPLE, STAIRS, brute.beside(brute.short_memory(2, 2), brute.first_memory(1))):
            first, last, step = numbers(machine)
            for length in range(6):
                for place in range(length + 1):
                    for filling in brute.rows(2, length):
                        for state in range(machine.states):
                            wanted = False
                            if first <= place <= length - 1 - step - last:
                                changed = brute.swapped(filling, place, place + step)
                                wanted = brute.run(machine, state, filling) != brute.run(machine, state, changed)
                            self.assertIs(is_inexact_harm(machine, length, (place, filling, state)), wanted)

    def test_what_is_no_harm(self):
        good = inexact_harm(machine=STAIRS, length=4)
        place, filling, state = good
        self.assertIs(is_inexact_harm(machine=STAIRS, length=4, value=good), True)
        wrong = (
            None, 3, "harm", (), Odd(), list(good), good[:2], good[1:], (*good, 0), (place, list(filling), state),
            (-1, filling, state), (3, filling, state), (4, filling, state), (HUGE, filling, state),
            (None, filling, state), (str(place), filling, state), (bool(place), filling, state),
            (float(place), filling, state), (place, filling, -1), (place, filling, STAIRS.states),
            (place, filling, None), (place, filling, state + 0.0), (place, None, state), (place, filling[1:], state),
            (place, (*filling, 0), state), (place, (2, *filling[1:]), state), (place, (0, 0, 0, 0), state),
            (place, (filling, state)), Odd(), (Odd(), Odd(), Odd()),
        )
        for value in wrong:
            self.assertIs(is_inexact_harm(STAIRS, 4, value), False, value)
        self.assertIs(is_inexact_harm(STAIRS, 3, good), False)
        self.assertIs(is_inexact_harm(STAIRS, HUGE, good), False)

    def test_what_the_numbers_do_not_let_is_no_such_harm(self):
        machine = Machine(2, brute.first_memory(2))
        for place in range(2):
            filling, state = exchange_harm(machine, place, 1, 3 - place)
            self.assertIs(is_inexact_harm(machine, 5, (place, filling, state)), False)
        machine = Machine(2, brute.last_memory(2))
        for place in (2, 3):
            filling, state = exchange_harm(machine, place, 1, 3 - place)
            self.assertIs(is_inexact_harm(machine, 5, (place, filling, state)), False)

    def test_without_numbers(self):
        filling, state = exchange_harm(NONE, 0, 1, 2)
        self.assertIsNone(inexact_harm(NONE, 4))
        self.assertIs(is_inexact_harm(NONE, 4, (0, filling, state)), False)
