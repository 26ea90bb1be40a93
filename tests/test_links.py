"""Point 21: linked places, and how many reorderings are harmless."""

from math import factorial

from endsandround.court import numbers
from endsandround.errors import Refused
from endsandround.exactly import inexact_lengths, is_exact
from endsandround.links import harmless_count, links, sure_count
from endsandround.machines import Machine
from tests import brute
from tests.checks import Case

EXAMPLE = Machine(2, [(1, 2), (2, 3), (2, 2), (2, 2)])
STAIRS = Machine(2, brute.short_memory(2, 3))
TURNS = Machine(2, [(1, 0), (0, 2), (2, 1)])
NONE = Machine(2, [(0, 1), (0, 0)])
FRAMED = brute.beside(brute.first_memory(2), brute.last_memory(3), brute.wheel(2))
TWO_WORDS = brute.one_word((0, 1, 0, 1), (1, 0, 1, 0))
BEYOND = brute.beside(*[brute.wheel(step) for step in (2, 3, 5, 7, 11, 13)])


def some_machines(seed):
    yield from brute.small_machines()
    yield from brute.near_machines(seed, 40, states=(3, 4))
    yield from (EXAMPLE, STAIRS, TURNS, NONE, TWO_WORDS, Machine(2, brute.short_memory(1, 4)))
    yield brute.beside(brute.short_memory(1, 3), brute.wheel(2))


class LinksTest(Case):
    def test_as_by_all_rows(self):
        for machine in some_machines(211):
            for length in range(7 if machine.commands < 3 else 5):
                told = links(machine, length)
                self.is_all_tuples(told)
                self.assertEqual(told, brute.links(machine, length))

    def test_told(self):
        self.assertEqual(links(machine=EXAMPLE, length=2), (0, 1))
        self.assertEqual(links(EXAMPLE, 3), (0, 0, 0))
        self.assertEqual(links(STAIRS, 4), (0, 1, 0, 0))
        self.assertEqual(links(TWO_WORDS, 4), (0, 1, 0, 1))
        self.assertEqual(links(FRAMED, 9), (0, 1, 2, 3, 2, 3, 6, 7, 8))

    def test_ends_of_lengths(self):
        self.assertEqual(links(TURNS, 0), ())
        self.assertEqual(links(TURNS, 1), (0,))
        self.assertEqual(links(TURNS, 60), (0, 1) * 30)
        self.assertEqual(links(NONE, 60), tuple(range(60)))
        self.assertEqual(links(Machine(1, [(1,), (2,), (2,)]), 60), (0,) * 60)
        self.assertEqual(links(Machine(5, [(0,) * 5]), 60), (0,) * 60)
        self.assertEqual(links(FRAMED, 60), (0, 1) + (2, 3) * 27 + (2, 57, 58, 59))

    def test_inexact_rows_of_60_entries(self):
        machine = brute.beside(brute.short_memory(4, 57), brute.wheel(54))
        self.assertEqual(links(machine, 60), tuple(range(54)) + (0, 1, 2, 57, 4, 5))
        self.assertEqual(sure_count(machine, 60), 32)

    def test_linked_places_stay_linked_in_longer_rows(self):
        for machine in some_machines(212):
            for length in range(1, 9):
                short, more = links(machine, length), links(machine, length + 1)
                for i in range(length):
                    for j in range(i):
                        if short[i] == short[j]:
                            self.assertEqual(more[i], more[j])
                            self.assertEqual(more[i + 1], more[j + 1])


class CountTest(Case):
    def test_sure_count_as_by_trying(self):
        for machine in some_machines(213):
            for length in range(6):
                linked = links(machine, length)
                wanted = [p for p in brute.reorderings(length) if all(linked[i] == linked[p[i]] for i in range(length))]
                self.assertEqual(sure_count(machine, length), len(wanted))
                if length < 5 or machine.commands < 3:
                    self.assertTrue(all(brute.is_harmless(machine, p) for p in wanted))

    def test_sure_count_of_long_rows(self):
        self.assertEqual(sure_count(machine=TURNS, length=60), factorial(30) ** 2)
        self.assertEqual(sure_count(NONE, 60), 1)
        self.assertEqual(sure_count(TURNS, 0), 1)
        self.assertEqual(sure_count(TWO_WORDS, 4), 4)

    def test_harmless_count_as_by_all_rows(self):
        for machine in some_machines(214):
            for length in range(6 if machine.commands < 3 else 5):
                if is_exact(machine, length):
                    wanted = len([p for p in brute.reorderings(length) if brute.is_harmless(machine, p)])
                    self.assertEqual(harmless_count(machine, length), wanted)
                else:
                    self.raises_at(Refused, 0, harmless_count, machine, length)

    def test_harmless_count_of_long_rows(self):
        self.assertEqual(harmless_count(machine=TURNS, length=1000), factorial(500) ** 2)
        self.assertEqual(harmless_count(Machine(1, [(1,), (0,)]), 1000), factorial(1000))
        self.assertEqual(harmless_count(NONE, 1000), 1)
        self.assertEqual(harmless_count(FRAMED, 1000), factorial(498) * factorial(497))
        self.assertEqual(numbers(FRAMED), (2, 3, 2))
        self.assertEqual([harmless_count(FRAMED, length) for length in range(10)], [1] * 8 + [2, 4])

    def test_a_step_above_the_length(self):
        machine = Machine(2, brute.wheel(90))
        self.assertEqual(harmless_count(machine, 90), 1)
        self.assertEqual(harmless_count(machine, 92), 4)

    def test_harmless_count_at_inexact_lengths(self):
        low, high = inexact_lengths(STAIRS)
        self.assertEqual((low, high), (2, 4))
        self.raises_at(Refused, 0, harmless_count, STAIRS, low)
        self.raises_at(Refused, 0, harmless_count, machine=STAIRS, length=high)
        self.assertEqual(harmless_count(STAIRS, high + 1), 120)
        self.assertEqual(harmless_count(STAIRS, low - 1), 1)

    def test_refused(self):
        self.raises_at(Refused, 5000, links, BEYOND, 3)
        self.raises_at(Refused, 5000, sure_count, BEYOND, 3)
        self.raises_at(Refused, 5000, harmless_count, BEYOND, 3)
