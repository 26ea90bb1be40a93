"""Points 25 and 26: built harms, the judge, all harmless reorderings."""

from random import Random

from endsandround.court import numbers
from endsandround.cuts import width
from endsandround.errors import InvalidReordering, Refused
from endsandround.exactly import inexact_lengths, is_exact
from endsandround.judge import built_harm, harm, harmless_all, is_harm
from endsandround.links import links
from endsandround.machines import Machine
from endsandround.reorderings import after, back, exchange, idle
from tests import brute
from tests.checks import WRONG_REORDERINGS, Case

NONE = Machine(2, [(0, 1), (0, 0)])
TURNS = Machine(2, [(1, 0), (0, 2), (2, 1)])
STAIRS = Machine(2, brute.short_memory(2, 3))
TWO_WORDS = brute.one_word((0, 1, 0, 1), (1, 0, 1, 0))
FRAMED = brute.beside(brute.first_memory(2), brute.last_memory(3), brute.wheel(2))
BEYOND = brute.beside(*[brute.wheel(step) for step in (2, 3, 5, 7, 11, 13)])
ONE = Machine(1, [(1,), (2,), (0,), (0,)])


def some_machines(seed):
    yield from brute.small_machines()
    yield from brute.near_machines(seed, 50)
    yield from brute.random_machines(seed, 20)
    yield from brute.reversible_machines(seed, 20, states=(2, 3, 4))
    yield from (STAIRS, TWO_WORDS, FRAMED, NONE, TURNS, ONE, Machine(2, brute.short_memory(1, 3)))
    yield brute.beside(brute.short_memory(1, 3), brute.wheel(2))


def some_reorderings(random, many, times):
    """Reorderings of so many places, among them some that move only a little."""
    for _ in range(times):
        yield tuple(random.sample(range(many), many))
        if many > 1:
            i, j = random.sample(range(many), 2)
            yield exchange(many, i, j)


class JudgeCase(Case):
    def check_harm(self, machine, p, told):
        self.is_all_tuples(told)
        self.assertTrue(brute.is_harm(machine, tuple(p), told))
        self.assertIs(is_harm(machine, p, told), True)


class BuiltHarmTest(JudgeCase):
    def test_each_reordering_that_is_not_allowed_has_one(self):
        random = Random(251)
        met = {}
        for machine in some_machines(251):
            triple = numbers(machine)
            for many in (0, 1, 2, 3, 4, 5, 7, 12):
                for p in some_reorderings(random, many, 3):
                    if brute.is_allowed(triple, p):
                        self.raises_at(Refused, 0, built_harm, machine, p)
                    else:
                        self.check_harm(machine, p, built_harm(machine, p))
                        met[triple] = True
        self.assertGreater(len(met), 10)
        self.assertIn(None, met)

    def test_all_short_ones(self):
        machines = (FRAMED, NONE, TURNS, brute.beside(brute.first_memory(2), brute.wheel(2)),
                    brute.beside(brute.last_memory(2), brute.chain(3)), Machine(3, [(0, 1, 2), (2, 1, 0), (1, 0, 1)]))
        for machine in machines:
            triple = numbers(machine)
            for many in range(6):
                for p in brute.reorderings(many):
                    if not brute.is_allowed(triple, p):
                        self.check_harm(machine, p, built_harm(machine, p))

    def test_ends_and_steps_one_by_one(self):
        for first in range(4):
            for last in range(4):
                for step in (1, 2, 3):
                    machine = brute.beside(
                        brute.first_memory(first) if first else [(0, 0)],
                        brute.last_memory(last) if last else [(0, 0)],
                        brute.wheel(step), brute.chain(5),
                    )
                    self.assertEqual(numbers(machine), (first, last, step))
                    for i in range(9):
                        for j in range(i):
                            p = exchange(9, i, j)
                            if brute.is_allowed((first, last, step), p):
                                self.raises_at(Refused, 0, built_harm, machine, p)
                            else:
                                self.check_harm(machine, p, built_harm(machine, p))

    def test_400_places(self):
        random = Random(252)
        turned = tuple((at + 1) % 400 for at in range(400))
        some = (tuple(range(400))[::-1], turned, exchange(400, 0, 399), exchange(400, 0, 1), exchange(400, 398, 399),
                exchange(400, 199, 200), tuple(random.sample(range(400), 400)))
        machines = [FRAMED, NONE, TURNS, Machine(2, brute.wheel(5)), Machine(2, brute.first_memory(8))]
        machines += list(brute.random_machines(252, 4, commands=(5,), states=(10,)))
        machines += list(brute.reversible_machines(252, 4, commands=(5,), states=(10,)))
        for machine in machines:
            triple = numbers(machine)
            for p in some:
                if not brute.is_allowed(triple, p):
                    self.check_harm(machine, p, built_harm(machine, p))
                    self.check_harm(machine, list(p), harm(machine, list(p)))

    def test_a_step_of_400(self):
        machine = Machine(2, brute.wheel(400))
        for p in (exchange(400, 0, 399), exchange(3, 0, 1), tuple(range(400))[::-1]):
            self.check_harm(machine, p, built_harm(machine, p))

    def test_words_that_are_rare(self):
        for word in ((0, 1, 1, 0, 0), (2, 0, 1, 2)):
            machine = brute.finder(3, word)
            self.assertIsNone(numbers(machine))
            for p in (exchange(4, 1, 2), exchange(7, 0, 6), (1, 2, 0), (3, 0, 1, 2), (4, 3, 2, 1, 0)):
                self.check_harm(machine, p, built_harm(machine, p))

    def test_errors(self):
        for value, at in WRONG_REORDERINGS:
            self.raises_at(InvalidReordering, at, built_harm, BEYOND, value)
        self.raises_at(Refused, 5000, built_harm, BEYOND, (1, 0))
        self.raises_at(Refused, 5000, built_harm, machine=BEYOND, reordering=(0, 1))
        self.raises_at(Refused, 0, built_harm, NONE, (0, 1))
        self.raises_at(Refused, 0, built_harm, TURNS, (2, 1, 0))
        self.raises_at(Refused, 0, built_harm, STAIRS, (1, 0))
        self.raises_at(Refused, 0, built_harm, ONE, tuple(range(400))[::-1])


class HarmTest(JudgeCase):
    def test_as_by_all_rows(self):
        random = Random(261)
        for machine in some_machines(261):
            for many in range(6 if machine.commands < 3 else 5):
                for p in some_reorderings(random, many, 3):
                    told = harm(machine, p)
                    if brute.is_harmless(machine, p):
                        self.assertIsNone(told)
                    else:
                        self.check_harm(machine, p, told)

    def test_inexact_lengths(self):
        for machine in (STAIRS, TWO_WORDS, Machine(2, brute.short_memory(3, 4)), brute.one_word((0, 1, 1, 0, 1, 0))):
            low, high = inexact_lengths(machine)
            random = Random(262)
            for many in range(low, high + 2):
                for p in some_reorderings(random, many, 15):
                    told = harm(machine, p)
                    if brute.is_harmless(machine, p):
                        self.assertIsNone(told)
                    else:
                        self.check_harm(machine, p, told)

    def test_harmless_ones_that_lead_places_to_others_than_the_linked_ones(self):
        p = (1, 0, 3, 2)
        self.assertFalse(is_exact(TWO_WORDS, 4))
        linked = links(TWO_WORDS, 4)
        self.assertNotEqual(linked[0], linked[1])
        self.assertIsNone(harm(machine=TWO_WORDS, reordering=p))
        self.check_harm(TWO_WORDS, (1, 0, 2, 3), harm(TWO_WORDS, (1, 0, 2, 3)))

    def test_lists_will_do_and_stay_as_they_are(self):
        p = [1, 0, 2]
        told = harm(NONE, p)
        again = built_harm(NONE, p)
        self.assertEqual(p, [1, 0, 2])
        p[0], p[1] = 0, 1
        self.check_harm(NONE, (1, 0, 2), told)
        self.check_harm(NONE, (1, 0, 2), again)

    def test_allowed_ones_of_exact_lengths_are_never_walked(self):
        wide = tuple(range(400))[::-1]
        self.assertEqual(width(wide), 400)
        for machine in (ONE, Machine(5, [(0,) * 5]), Machine(2, [(1, 1), (0, 0)])):
            self.assertIsNone(harm(machine, wide))
        self.assertIsNone(harm(FRAMED, (0, 1) + tuple(range(2, 397))[::-1] + (397, 398, 399)))
        self.check_harm(NONE, wide, harm(NONE, wide))

    def test_linked_places_of_60_are_never_walked(self):
        machine = brute.beside(brute.short_memory(4, 57), brute.wheel(54))
        self.assertFalse(is_exact(machine, 60))
        p = idle(60)
        for at in (0, 1, 2, 4, 5):
            p = after(p, exchange(60, at, at + 54))
        self.assertEqual(width(p), 10)
        self.assertIsNone(harm(machine, p))

    def test_walked_ones_of_40_places(self):
        machine = brute.beside(brute.short_memory(4, 37), brute.wheel(34))
        self.assertFalse(is_exact(machine, 40))
        linked = links(machine, 40)
        self.assertNotEqual(linked[3], linked[37])
        self.check_harm(machine, exchange(40, 3, 37), harm(machine, exchange(40, 3, 37)))
        p = idle(40)
        for at in range(6):
            p = after(p, exchange(40, at, at + 34))
        self.assertEqual(width(p), 12)
        self.raises_at(Refused, 12, harm, machine, p)

    def test_refused(self):
        machine = Machine(2, brute.short_memory(2, 12))
        self.assertFalse(is_exact(machine, 10))
        linked = links(machine, 10)
        self.assertNotEqual(linked[0], linked[9])
        wide = tuple(range(10))[::-1]
        self.raises_at(Refused, 10, harm, machine, wide)
        self.raises_at(Refused, 10, harm, machine=machine, reordering=list(wide))
        self.check_harm(machine, exchange(10, 0, 1), harm(machine, exchange(10, 0, 1)))
        self.assertIsNone(harm(machine, idle(10)))

    def test_which_error_comes_first(self):
        for value, at in WRONG_REORDERINGS:
            self.raises_at(InvalidReordering, at, harm, BEYOND, value)
        self.raises_at(Refused, 5000, harm, BEYOND, (1, 0))
        self.raises_at(Refused, 5000, harm, BEYOND, ())
        self.check_harm(NONE, tuple(range(12))[::-1], harm(NONE, tuple(range(12))[::-1]))


class HarmlessAllTest(JudgeCase):
    def test_as_by_all_rows(self):
        for machine in some_machines(263):
            for many in range(6 if machine.commands < 3 else 5):
                told = harmless_all(machine, many)
                self.is_all_tuples(told)
                wanted = tuple(p for p in brute.reorderings(many) if brute.is_harmless(machine, p))
                self.assertEqual(told, wanted)

    def test_told(self):
        self.assertEqual(harmless_all(machine=TURNS, places=3), ((0, 1, 2), (2, 1, 0)))
        self.assertEqual(harmless_all(NONE, 5), ((0, 1, 2, 3, 4),))
        self.assertEqual(harmless_all(NONE, 0), ((),))
        self.assertEqual(len(harmless_all(ONE, 5)), 120)
        told = harmless_all(TWO_WORDS, 4)
        self.assertIn((1, 0, 3, 2), told)
        self.assertNotIn((1, 0, 2, 3), told)

    def test_they_are_closed(self):
        for machine in (TWO_WORDS, STAIRS, TURNS, FRAMED):
            for many in range(6):
                told = harmless_all(machine, many)
                self.assertIn(idle(many), told)
                self.assertTrue(all(back(p) in told for p in told))
                if len(told) < 30:
                    self.assertTrue(all(after(p, q) in told for p in told for q in told))

    def test_five_commands_ten_states_five_places(self):
        machine = Machine(5, [[s + 1 if s < 2 else (3 + c % 2 if s == 2 else (s + 2 if s < 7 else 9)) for c in range(5)]
                              for s in range(10)])
        self.assertIsNotNone(inexact_lengths(machine))
        low, high = inexact_lengths(machine)
        for many in range(low, 6):
            told = harmless_all(machine, many)
            for p in brute.reorderings(min(many, 4)):
                if len(p) == many:
                    self.assertEqual(p in told, brute.is_harmless(machine, p))

    def test_refused(self):
        self.raises_at(Refused, 5000, harmless_all, BEYOND, 3)
