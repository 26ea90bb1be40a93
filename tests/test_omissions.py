"""Point 59: omissions."""

from itertools import product
from random import Random

from endsandround.builders import built
from endsandround.ends import delayed
from endsandround.errors import InvalidReordering, Refused
from endsandround.freest import free_machine
from endsandround.machines import Machine
from endsandround.omissioncourt import omission_numbers
from endsandround.omissions import (
    checked_omission,
    is_allowed_omission,
    is_omission_harm,
    omission_harm,
    omitted,
    then_omitted,
)
from tests import brute
from tests.checks import Case, Odd

WRONG = (
    (None, 0), (3, 0), ("01", 0), ({0: 1}, 0), (b"01", 0), ((2,), 0), ((0, 1, -1), 2), ([0, 0, 0, 2, 3], 3), ((0, True), 1),
    ((False,), 0), ((1, 1.0), 1), ((0, "1"), 1), ((0, None), 1), ([(0,)], 0), (range(2), 0), (Odd(), 0), ((0, Odd()), 1),
)
FLIP = Machine(2, [(1, 1), (0, 0)])


def omissions(many):
    return list(product((0, 1), repeat=many))


class OmissionTest(Case):
    def test_checked(self):
        for value in ((), (0,), (1,), (0, 1, 1), (0,) * 10000):
            self.assertEqual(checked_omission(value), value)
            self.assertEqual(checked_omission(list(value)), value)
        self.assertEqual(checked_omission(value=[1, 0]), (1, 0))
        self.is_all_tuples(checked_omission([1, 0]))
        for value, at in WRONG:
            self.raises_at(InvalidReordering, at, checked_omission, value)

    def test_omitted(self):
        for many in range(5):
            for omission in omissions(many):
                row = tuple("abcde"[:many])
                wanted = brute.left_of(row, omission)
                self.assertEqual(omitted(row, omission), wanted)
                self.assertEqual(omitted(list(row), list(omission)), wanted)
        row = [(1,), None, 3]
        self.assertEqual(omitted(row=row, omission=[0, 1, 0]), ((1,), 3))
        self.assertEqual(row, [(1,), None, 3])
        for value, at in WRONG:
            self.raises_at(InvalidReordering, at, omitted, [1, 2, 3, 4, 5, 6, 7], value)
        for row, omission in (((), (0,)), ((1, 2), (0,)), ([1], (0, 1, 0))):
            self.raises_at(Refused, len(omission), omitted, row, omission)

    def test_then_omitted(self):
        for many in range(5):
            for one in omissions(many):
                left = many - sum(one)
                row = tuple(range(many))
                for other in omissions(left):
                    both = then_omitted(one, other)
                    self.assertEqual(omitted(row, both), omitted(omitted(row, one), other))
                    self.assertEqual(both, then_omitted(list(one), list(other)))
                self.raises_at(Refused, left, then_omitted, one, (0,) * (left + 1))
                self.raises_at(Refused, left, then_omitted, one, (0,) * many if left < many else (1,) * (many + 2))
        self.assertEqual(then_omitted(one=(0, 1, 0), other=(1, 0)), (1, 1, 0))
        self.is_all_tuples(then_omitted([0, 1, 0], [1, 0]))

    def test_then_omitted_refuses_from_left_to_right(self):
        for value, at in WRONG:
            self.raises_at(InvalidReordering, at, then_omitted, value, None)
            self.raises_at(InvalidReordering, at, then_omitted, (0, 1), value)


class HarmTest(Case):
    def check(self, machine, omission, harmless):
        harm = omission_harm(machine, omission)
        self.assertEqual(harm is None, harmless)
        if harm is not None:
            self.is_all_tuples(harm)
            filling, state = harm
            self.assertEqual(len(filling), len(omission))
            left = brute.left_of(filling, omission)
            self.assertNotEqual(brute.run(machine, state, filling), brute.run(machine, state, left))
            self.assertIs(is_omission_harm(machine, omission, harm), True)

    def test_as_by_all_rows(self):
        some = (*brute.small_machines(), *brute.random_machines(591, 40), *brute.counting_machines(592, 60))
        for machine in some:
            for many in range(5 if machine.commands < 3 else 4):
                for omission in omissions(many):
                    self.check(machine, omission, brute.is_harmless_omission(machine, omission))

    def test_short_rows_of_which_few_entries_are_left(self):
        """Allowed by the numbers of omissions, but not enough is left to be sure."""
        harmless = {True: 0, False: 0}
        for before, longest in product((1, 2, 3), repeat=2):
            memory = brute.short_memory(before, longest)
            for machine in (Machine(2, memory), brute.beside(memory, brute.chain(3), [(1, 1), (0, 0)])):
                _, _, block = omission_numbers(machine)
                for omission in omissions(6):
                    if sum(omission) > 0 and sum(omission) % block == 0:
                        wanted = brute.is_harmless_omission(machine, omission)
                        harmless[wanted] += 1
                        self.check(machine, omission, wanted)
        self.assertGreater(min(harmless.values()), 100)

    def test_great_machines(self):
        counter = free_machine((0, 0, 1), 2, 400)
        self.check(counter, (0, 0, 1) * 666, False)
        memory = built((90, 90, 1))
        self.check(memory, (0,) * 90 + (1,) * 1820 + (0,) * 90, True)
        self.check(memory, (0,) * 90 + (1,) * 1821 + (0,) * 89, False)
        self.check(delayed(Machine(2, brute.last_memory(6)), 7), (0,) * 500 + (1,) * 1000 + (0,) * 500, True)

    def test_checker_as_by_all_rows(self):
        for machine in (*brute.random_machines(593, 15, commands=(1, 2), states=(1, 2, 3)), FLIP):
            for omission in omissions(3):
                for row in brute.rows(machine.commands, 3):
                    for state in range(machine.states):
                        left = brute.left_of(row, omission)
                        wanted = brute.run(machine, state, row) != brute.run(machine, state, left)
                        self.assertIs(is_omission_harm(machine, omission, (row, state)), wanted)
                        self.assertIs(is_omission_harm(machine, list(omission), (list(row), state)), False)

    def test_no_harms(self):
        self.assertTrue(is_omission_harm(machine=FLIP, omission=[0, 1], value=((0, 1), 1)))
        for value in (None, 3, (), ((0, 1),), [(0, 1), 1], ([0, 1], 1), ((0, 1), 2), ((0, 1), -1), ((0, 1), True),
                      ((0, 2), 0), ((0,), 0), ((0, 1, 0), 0), ((0, True), 1), ((0, 1), 1, 0), ("01", 1), ((0, 1), None),
                      Odd(), (Odd(), 1), ((0, 1), Odd()), ((0, Odd()), 1), {0: 1}):
            self.assertIs(is_omission_harm(FLIP, (0, 1), value), False)

    def test_facts(self):
        random = Random(594)
        for machine in (*brute.counting_machines(595, 60), *brute.random_machines(596, 20)):
            one = tuple(random.choice((0, 0, 1)) for _ in range(random.randrange(7)))
            if omission_harm(machine, one) is None:
                for before, behind in ((0, 1), (1, 0), (2, 3)):
                    self.assertIsNone(omission_harm(machine, (0,) * before + one + (0,) * behind))
                for other in omissions(len(one) - sum(one)):
                    both = then_omitted(one, other)
                    self.assertEqual(omission_harm(machine, other) is None, omission_harm(machine, both) is None)

    def test_2000_places(self):
        random = Random(597)
        step = Machine(5, [[(state + 1) % 10] * 5 for state in range(10)])
        self.check(step, (1, 0) * 1000, True)
        self.check(step, (1, 0) * 999 + (0, 0), False)
        self.check(brute.beside(brute.first_memory(3), brute.last_memory(3)), (0,) * 3 + (1,) * 1994 + (0,) * 3, True)
        self.check(brute.beside(brute.first_memory(3), brute.last_memory(3)), (0,) * 2 + (1,) * 1995 + (0,) * 3, False)
        for machine in brute.random_machines(598, 6, commands=(4, 5), states=(9, 10)):
            omission = tuple(random.randrange(2) for _ in range(2000))
            harm = omission_harm(machine, omission)
            self.assertTrue(harm is None or is_omission_harm(machine, omission, harm))

    def test_refused_behind_the_machine(self):
        for value, at in WRONG:
            self.raises_at(InvalidReordering, at, omission_harm, FLIP, value)
            self.raises_at(InvalidReordering, at, is_omission_harm, FLIP, value, None)
            self.raises_at(InvalidReordering, at, is_allowed_omission, (0, 0, 1), value)
            self.raises_at(InvalidReordering, at, is_allowed_omission, None, value)


class AllowedTest(Case):
    def test_as_told(self):
        for triple in product((0, 1, 3), (0, 1, 2), (1, 2, 3)):
            first, last, block = triple
            for many in range(7):
                for omission in omissions(many):
                    out = [place for place in range(many) if omission[place]]
                    ends = [place for place in out if place < first or place >= many - last]
                    wanted = not ends and len(out) % block == 0
                    self.assertIs(is_allowed_omission(triple, omission), wanted)
                    self.assertIs(is_allowed_omission(triple, list(omission)), wanted)
                    self.assertIs(is_allowed_omission(None, omission), not out)

    def test_told(self):
        self.assertIs(is_allowed_omission(triple=(5, 5, 2), omission=()), True)
        self.assertIs(is_allowed_omission(triple=(0, 0, 10 ** 30), omission=(1,) * 30), False)
