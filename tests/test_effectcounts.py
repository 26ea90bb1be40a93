"""Point 58: how many effects rows have, and up to which length machines are free."""

from itertools import combinations

from endsandround.court import numbers
from endsandround.effectcounts import effect_counts, free_length, merged_rows
from endsandround.errors import Refused
from endsandround.exactly import inexact_lengths, is_exact
from endsandround.freest import free_machine
from endsandround.machines import Machine, effects_of_length
from endsandround.rowkinds import kind_count
from tests import brute
from tests.checks import Case

# Its rounds are refused.
BEYOND = brute.beside(*[brute.wheel(step) for step in (2, 3, 5, 7, 11, 13)])


def machines():
    yield from brute.small_machines()
    yield from brute.random_machines(581, 60)
    yield from brute.near_machines(582, 60)
    yield from brute.reversible_machines(583, 10, commands=(2, 3), states=(2, 3, 4))
    for many in (2, 3, 4):
        yield Machine(2, brute.chain(many))
        yield Machine(2, brute.short_memory(many, 2))
        yield Machine(2, brute.last_memory(many))
        yield brute.beside(brute.chain(many), brute.wheel(2))
    # Inexact at some lengths, at which it is free all the same.
    yield brute.beside(brute.short_memory(2, 2), [((at + 0) % 7, (at + 1) % 7) for at in range(7)])
    yield brute.beside(brute.short_memory(1, 3), brute.short_memory(3, 1), [(at, (at + 1) % 5) for at in range(5)])


def are_alike(triple, one, other):
    return one == other if triple is None else brute.are_alike(triple, one, other)


def is_free(machine, triple, length):
    """By looking at each two rows with the same effect."""
    rows = {}
    for row in brute.rows(machine.commands, length):
        rows.setdefault(brute.effect(machine, row), []).append(row)
    return all(are_alike(triple, one, other) for found in rows.values() for one, other in combinations(found, 2))


class EffectCountsTest(Case):
    def test_as_by_all_rows(self):
        for machine in machines():
            longest = 7 if machine.commands < 3 else 4
            wanted = [
                len({brute.effect(machine, row) for row in brute.rows(machine.commands, length)})
                for length in range(longest + 1)
            ]
            self.assertEqual(effect_counts(machine, longest), tuple(wanted))

    def test_told(self):
        machine = Machine(2, brute.wheel(2))
        self.assertEqual(effect_counts(machine=machine, longest=5), (1, 2, 4, 4, 4, 4))
        self.assertEqual(effect_counts(machine, 0), (1,))
        self.is_all_tuples(effect_counts(machine, 3))

    def test_up_to_1000(self):
        machine = free_machine((0, 0, 1), 2, 900)
        self.assertEqual(effect_counts(machine, 1000), tuple(min(n + 1, 901) for n in range(1001)))
        counts = effect_counts(Machine(2, brute.first_memory(5)), 1000)
        self.assertEqual(len(counts), 1001)
        self.assertEqual(counts[1000], len(effects_of_length(Machine(2, brute.first_memory(5)), 1000)))

    def test_facts(self):
        for machine in brute.reversible_machines(584, 20, commands=(2, 3), states=(2, 3, 4)):
            counts = effect_counts(machine, 8)
            self.assertEqual(sorted(counts), list(counts))
        for machine in machines():
            triple = numbers(machine)
            for length, many in enumerate(effect_counts(machine, 6)):
                if triple is not None and is_exact(machine, length):
                    kinds = kind_count(triple, machine.commands, length)
                    self.assertLessEqual(many, kinds)
                    self.assertEqual(many == kinds, merged_rows(machine, length) is None)


class FreeTest(Case):
    def test_as_by_all_rows(self):
        inexact = 0
        for machine in machines():
            triple = numbers(machine)
            span = inexact_lengths(machine)
            frees = []
            for length in range(9 if machine.commands < 3 else 6):
                free = is_free(machine, triple, length)
                frees.append(free)
                pair = merged_rows(machine, length)
                self.assertEqual(pair is None, free)
                if span is not None and span[0] <= length <= span[1]:
                    inexact += free
                if pair is not None:
                    self.is_all_tuples(pair)
                    one, other = pair
                    self.assertEqual([len(one), len(other)], [length, length])
                    self.assertEqual(brute.effect(machine, one), brute.effect(machine, other))
                    self.assertFalse(are_alike(triple, one, other))
            if machine.commands == 1:
                self.assertIsNone(free_length(machine))
                self.assertTrue(all(frees))
            else:
                found = free_length(machine)
                for length, free in enumerate(frees):
                    self.assertEqual(free, length <= found)
        self.assertGreater(inexact, 5)

    def test_free_machines(self):
        for triple, commands, length in (((1, 1, 2), 2, 6), ((0, 0, 1), 3, 9), ((2, 1, 1), 2, 12), ((0, 0, 3), 2, 9)):
            machine = free_machine(triple, commands, length)
            found = free_length(machine)
            self.assertGreaterEqual(found, length)
            self.assertIsNone(merged_rows(machine, found))
            self.assertIsNotNone(merged_rows(machine, found + 1))

    def test_long_rows(self):
        machine = free_machine((0, 0, 1), 2, 900)
        self.assertEqual(free_length(machine), 900)
        self.assertIsNone(merged_rows(machine, 900))
        one, other = merged_rows(machine, 1000)
        self.assertEqual((len(one), len(other)), (1000, 1000))
        self.assertEqual((one.count(1) - other.count(1)) % 901, 0)
        self.assertNotEqual(one.count(1), other.count(1))
        for machine in (Machine(2, brute.last_memory(40)), Machine(2, [(0, 1), (0, 0)]), Machine(3, [(0, 0, 0)])):
            one, other = merged_rows(machine=machine, length=1000)
            self.assertEqual(brute.effect(machine, one), brute.effect(machine, other))
            self.assertFalse(are_alike(numbers(machine), one, other))
        self.assertIsNone(merged_rows(Machine(1, [(1,), (0,)]), 1000))

    def test_told(self):
        self.assertEqual(free_length(machine=Machine(2, brute.wheel(2))), 2)
        self.assertEqual(free_length(Machine(2, [(0, 0)])), 0)
        self.assertIsNone(free_length(Machine(1, [(0,)])))
        self.assertEqual(merged_rows(Machine(2, [(0, 0)]), 1), ((0,), (1,)))

    def test_refused(self):
        self.raises_at(Refused, 5000, free_length, BEYOND)
        self.raises_at(Refused, 5000, merged_rows, BEYOND, 3)
        self.assertEqual(effect_counts(BEYOND, 3), (1, 2, 4, 8))
