"""Point 61: the numbers of omissions."""

from itertools import product

from endsandround.court import numbers
from endsandround.layers import settled_behind, settled_joined
from endsandround.machines import Machine
from endsandround.omissioncourt import may_omit, omission_numbers
from endsandround.omissions import is_allowed_omission, omission_harm
from endsandround.slips import never_counts
from tests import brute
from tests.checks import Case


def rings(*sizes):
    """The steps of states that one command leads round, in rings of these sizes."""
    steps = []
    for size in sizes:
        offset = len(steps)
        steps += [offset + (at + 1) % size for at in range(size)]
    return steps


class MayOmitTest(Case):
    def test_as_by_all_rows(self):
        for machine in (*brute.small_machines(), *brute.random_machines(611, 30), *brute.counting_machines(612, 50)):
            for before, after in product(range(3), repeat=2):
                for many in range(4 if machine.commands < 3 else 2):
                    wanted = brute.may_omit(machine, before, many, after)
                    self.assertIs(may_omit(machine, before, many, after), wanted)

    def test_up_to_10000(self):
        machine = Machine(5, [[target] * 5 for target in rings(2, 3, 5)])
        self.assertIs(may_omit(machine=machine, before=10000, many=9990, after=10000), True)
        self.assertIs(may_omit(machine, 0, 10000, 0), False)
        self.assertIs(may_omit(Machine(2, brute.last_memory(3)), 10000, 10000, 2), False)
        self.assertIs(may_omit(Machine(2, brute.last_memory(3)), 10000, 10000, 3), True)
        self.assertIs(may_omit(Machine(2, [(0, 1), (1, 0)]), 1, 0, 1), True)


class OmissionNumbersTest(Case):
    def test_the_document_s_examples(self):
        machines = [Machine(2, steps) for steps in ([(0, 1), (0, 1)], [(1, 1), (0, 0)], [(1, 0), (0, 1)])]
        self.assertEqual([omission_numbers(machine) for machine in machines], [(0, 1, 1), (0, 0, 2), None])

    def test_as_by_what_is_harmless(self):
        told = {}
        for machine in (*brute.small_machines(), *brute.random_machines(613, 30), *brute.counting_machines(614, 90)):
            triple = omission_numbers(machine)
            told[triple] = True
            enough = settled_behind(machine) + settled_joined(machine)
            for many in range(7 if machine.commands < 3 else 5):
                for omission in product((0, 1), repeat=many):
                    harmless = omission_harm(machine, omission) is None
                    if sum(omission) > 0:
                        allowed = is_allowed_omission(triple, omission)
                        if harmless:
                            self.assertTrue(allowed)
                        if allowed and many - sum(omission) >= enough:
                            self.assertTrue(harmless)
                    else:
                        self.assertTrue(harmless)
        self.assertGreater(len(told), 12)

    def test_facts(self):
        for machine in (*brute.counting_machines(615, 150), *brute.near_machines(616, 60), *brute.random_machines(617, 60)):
            u, v = settled_behind(machine), settled_joined(machine)
            triple = omission_numbers(machine)
            self.assertEqual(triple is None, not never_counts(machine, u, v))
            if triple is None:
                self.assertFalse(any(may_omit(machine, u, many, v) for many in range(1, 13)))
            else:
                first, last, block = triple
                self.is_all_tuples(triple)
                self.assertEqual(numbers(machine), (first, last, 1))
                for many in range(2 * block + 1):
                    self.assertEqual(may_omit(machine, u, many, v), many % block == 0)
                for x in range(u + 2):
                    self.assertEqual(never_counts(machine, x, v), x >= first)
                for y in range(v + 2):
                    self.assertEqual(never_counts(machine, u, y), y >= last)

    def test_great_blocks(self):
        machine = Machine(2, [(target, target) for target in rings(2, 3, 5)])
        self.assertEqual(omission_numbers(machine=machine), (0, 0, 30))
        self.assertEqual(numbers(machine), (0, 0, 1))
        machine = Machine(3, [(target,) * 3 for target in rings(7, 11, 13, 5)])
        self.assertEqual(omission_numbers(machine), (0, 0, 5005))
        primes = (2, 3, 5, 7, 11, 13, 17, 19, 23, 29)
        self.assertEqual(omission_numbers(Machine(1, [(target,) for target in rings(*primes)])), (0, 0, 6469693230))

    def test_one_command_or_state(self):
        self.assertEqual(omission_numbers(Machine(3, [(0, 0, 0)])), (0, 0, 1))
        self.assertEqual(omission_numbers(Machine(1, [(1,), (2,), (2,)])), (0, 0, 1))
        self.assertEqual(omission_numbers(Machine(1, [(1,), (2,), (1,)])), (0, 0, 2))
