"""Points 36 and 37: telling machines."""

from random import Random

from endsandround.alike import are_alike
from endsandround.court import may_exchange, numbers
from endsandround.errors import InvalidRow, InvalidTriple, Refused
from endsandround.exactly import is_exact
from endsandround.exchanges import fewest_exchanges
from endsandround.gaplabels import exchange_never_matters
from endsandround.machines import Machine, effect
from endsandround.telling import is_telling, telling_machine
from tests import brute
from tests.checks import WRONG_NUMBER_ROWS, WRONG_TRIPLES, Case, Odd


class LabelTest(Case):
    def test_as_the_court(self):
        random = Random(361)
        met = set()
        machines = (*brute.near_machines(361, 60), *brute.random_machines(361, 60), *brute.small_machines())
        for machine in (*machines, Machine(2, brute.short_memory(2, 3)), Machine(2, brute.wheel(5))):
            for _ in range(4):
                before, step, after = random.randrange(4), random.randrange(1, 40), random.randrange(4)
                wanted = may_exchange(machine, before, step, after)
                self.assertIs(exchange_never_matters(machine, before, step, after), wanted)
                met.add(wanted)
        self.assertEqual(met, {True, False})

    def test_great_steps(self):
        wheel = Machine(2, brute.wheel(6))
        self.assertIs(exchange_never_matters(wheel, 0, 6 * 10 ** 30, 0), True)
        self.assertIs(exchange_never_matters(wheel, 0, 6 * 10 ** 30 + 3, 0), False)
        self.assertIs(exchange_never_matters(wheel, 10 ** 30, 12, 10 ** 30), True)


class TellingTest(Case):
    def check(self, triple, one, other):
        first, last, step = triple
        told = telling_machine(triple, one, other)
        machine, state = told
        self.assertIsInstance(told, tuple)
        self.assertEqual(machine.commands, 1 + max((*one, *other)))
        self.assertLessEqual(machine.states, 8 * (first + last + step))
        self.assertNotEqual(brute.run(machine, state, one), brute.run(machine, state, other))
        self.assertIs(is_telling(triple, one, other, told), True)
        return told

    def test_all_rows(self):
        random = Random(362)
        kinds = set()
        for _ in range(700):
            triple = (random.randrange(4), random.randrange(4), random.randrange(1, 5))
            one = [random.randrange(3) for _ in range(random.randrange(9))]
            other = list(one)
            if random.random() < 0.2:
                other = [random.randrange(3) for _ in range(random.randrange(9))]
            elif one:
                for _ in range(random.choice((1, 1, 2, 5))):
                    other[random.randrange(len(one))] = random.randrange(3)
            if are_alike(triple, one, other):
                self.raises_at(Refused, 0, telling_machine, triple, one, other)
                self.assertIs(is_telling(triple, one, other, (Machine(3, [(0, 0, 0)]), 0)), False)
                continue
            machine, _ = self.check(triple, one, other)
            self.assertTrue(may_exchange(machine, triple[0], triple[2], triple[1]))
            kinds.add(numbers(machine))
        self.assertGreater(len(kinds), 8)

    def test_what_is_allowed_is_harmless(self):
        random = Random(363)
        for _ in range(40):
            triple = (random.randrange(3), random.randrange(3), random.randrange(1, 4))
            length = random.randrange(1, 7)
            one, other = ([random.randrange(2) for _ in range(length)] for _ in range(2))
            if are_alike(triple, one, other) or max(one + other) == 0:
                continue
            machine, _ = self.check(triple, one, other)
            for many in range(6):
                for p in brute.reorderings(many):
                    if brute.is_allowed(triple, p):
                        self.assertTrue(brute.is_harmless(machine, p))

    def test_ends_that_come_again(self):
        # The entry at the place at which they differ stands behind it, too.
        for one, other in (((0, 1, 1, 1), (1, 1, 1, 1)), ((0, 1, 0, 1, 0, 1), (0, 0, 0, 1, 0, 1)),
                           ((1, 0, 1, 1, 0, 1), (1, 0, 0, 1, 0, 1)), ((0, 0, 1, 0, 0, 1), (0, 0, 0, 0, 0, 1))):
            self.check((0, 6, 1), one, other)
            self.check((0, 6, 1), other, one)
            self.check((6, 0, 1), one, other)
            self.check((6, 6, 2), one, other)

    def test_told(self):
        told = telling_machine(triple=[0, 0, 2], one=[0, 1, 0], other=[1, 0, 0])
        self.assertIs(is_telling(triple=[0, 0, 2], one=[0, 1, 0], other=[1, 0, 0], value=told), True)
        self.check((0, 0, 1), (), (0,))
        self.check((0, 0, 1), (4,), ())

    def test_each_difference_of_lengths_and_counts(self):
        for unlike in range(1, 501):
            self.check((0, 0, 1), (0,) * unlike, ())
            self.check((0, 0, 1), (0,) * unlike, (1,) * unlike)
        self.check((0, 0, 1), (1,) * 500, (1,) * 80)
        self.check((0, 0, 1), (0,) * 80 + (1,) * 420, (0,) * 500)

    def test_500_entries_and_great_numbers(self):
        random = Random(364)
        one = tuple(random.randrange(5) for _ in range(500))
        for triple in ((0, 0, 500), (500, 0, 500), (0, 500, 500), (500, 500, 500), (3, 3, 250), (0, 0, 80), (0, 500, 1)):
            for place in (0, 3, 499):
                other = (*one[:place], (one[place] + 1) % 5, *one[place + 1:])
                self.check(triple, one, other)
        self.check((0, 500, 500), (0,) * 500, (1,) + (0,) * 499)
        self.check((0, 0, 125), (0, 4) * 250, (0, 4) * 249 + (0, 0))
        self.check((0, 0, 125), (0,) * 500, (4,) * 500)

    def test_what_is_no_telling_pair(self):
        triple, one, other = (0, 0, 1), (0, 1), (1, 1)
        machine, state = good = telling_machine(triple, one, other)
        self.assertIs(is_telling(triple, one, other, good), True)
        wrong = (
            None, 3, "pair", (), Odd(), list(good), (machine,), (*good, 0), (state, machine), (machine, -1),
            (machine, machine.states), (machine, None), (machine, bool(state)), (machine, state + 0.0), (machine, Odd()),
            (machine.steps, state), (Odd(), state), {0: machine, 1: state},
            (Machine(1, [(1,), (0,)]), 0),
            (Machine(2, [(0, 0)]), 0),
            (Machine(2, brute.first_memory(1)), 0),
            (Machine(2, brute.last_memory(2)), 0),
            (Machine(2, [(0, 1), (0, 0)]), 0),
        )
        for value in wrong:
            self.assertIs(is_telling(triple, one, other, value), False, value)

    def test_further_machines(self):
        # More commands than entries, more states than needed.
        sums = Machine(3, [[(state + c) % 10 for c in range(3)] for state in range(10)])
        self.assertIs(is_telling((0, 0, 1), (0, 1), (1, 1), (sums, 4)), True)
        self.assertIs(is_telling((5, 5, 7), (0, 1), (1, 1), (sums, 4)), True)
        self.assertIs(is_telling((0, 0, 1), (0, 1), (1, 0), (sums, 4)), False)
        self.assertIs(is_telling((0, 0, 1), (0, 3), (1, 3), (sums, 4)), False)
        framed = brute.beside(brute.first_memory(2), brute.last_memory(3), brute.wheel(2))
        self.assertIs(is_telling((2, 3, 2), (1, 0, 0), (0, 0, 0), (framed, 8)), True)
        self.assertIs(is_telling((1, 3, 2), (1, 0, 0), (0, 0, 0), (framed, 8)), False)
        self.assertIs(is_telling((2, 2, 2), (1, 0, 0), (0, 0, 0), (framed, 8)), False)
        self.assertIs(is_telling((2, 3, 1), (1, 0, 0), (0, 0, 0), (framed, 8)), False)
        self.assertIs(is_telling((2, 3, 4), (1, 0, 0), (0, 0, 0), (framed, 8)), True)

    def test_as_by_all_reorderings(self):
        random = Random(365)
        met = set()
        for machine in (*brute.small_machines(), *brute.near_machines(365, 30, commands=(2,), states=(2, 3))):
            triple = (random.randrange(2), random.randrange(2), random.randrange(1, 3))
            one, other = ([random.randrange(machine.commands) for _ in range(3)] for _ in range(2))
            state = random.randrange(machine.states)
            harmless = all(
                brute.is_harmless(machine, p)
                for many in range(6) for p in brute.reorderings(many)[::3] if brute.is_allowed(triple, p)
            )
            if harmless != may_exchange(machine, triple[0], triple[2], triple[1]):
                continue
            wanted = harmless and brute.run(machine, state, one) != brute.run(machine, state, other)
            self.assertIs(is_telling(triple, one, other, (machine, state)), wanted)
            met.add(wanted)
        self.assertEqual(met, {True, False})

    def test_alike_rows_of_an_exact_length_have_the_same_effect(self):
        random = Random(371)
        for machine in brute.near_machines(371, 60):
            triple = numbers(machine)
            for length in range(7):
                if triple is None or not is_exact(machine, length):
                    continue
                row = tuple(random.randrange(machine.commands) for _ in range(length))
                other = random.choice(brute.alike_rows(triple, row))
                for place in fewest_exchanges(triple, row, other):
                    row = brute.swapped(row, place, place + triple[2])
                    self.assertEqual(effect(machine, row), effect(machine, other))

    def test_wrong_triples_and_rows(self):
        for value, at in WRONG_TRIPLES:
            self.raises_at(InvalidTriple, at, telling_machine, value, None, None)
            self.raises_at(InvalidTriple, at, is_telling, value, None, None, None)
        for value, at in WRONG_NUMBER_ROWS:
            self.raises_at(InvalidRow, at, telling_machine, (0, 0, 1), value, None)
            self.raises_at(InvalidRow, at, telling_machine, (0, 0, 1), (0, 1), value)
            self.raises_at(InvalidRow, at, is_telling, (0, 0, 1), value, None, None)
            self.raises_at(InvalidRow, at, is_telling, (0, 0, 1), (0, 1), value, None)

    def test_nothing_is_changed(self):
        triple, one, other = [0, 0, 1], [2, 1, 0], [0, 1, 1]
        told = telling_machine(triple, one, other)
        is_telling(triple, one, other, told)
        self.assertEqual((triple, one, other), ([0, 0, 1], [2, 1, 0], [0, 1, 1]))
