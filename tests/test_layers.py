"""Points 11 and 12: states behind, states joined."""

import unittest

from endsandround.errors import Refused
from endsandround.layers import behind, joined, keeping_row, row_behind, settled_behind, settled_joined
from endsandround.machines import Machine, end_state
from tests import brute
from tests.checks import Case

HUGE = 10 ** 60


def machines(seed):
    yield from brute.small_machines()
    yield from brute.random_machines(seed, 60)
    yield from brute.near_machines(seed, 60)


class BehindTest(Case):
    def test_as_by_all_rows(self):
        for machine in machines(31):
            for count in range(5):
                self.assertEqual(behind(machine, count), brute.behind(machine, count))

    def test_settled(self):
        for machine in machines(32):
            settled = settled_behind(machine)
            self.assertLess(settled, machine.states)
            lots = [behind(machine, count) for count in range(machine.states + 1)]
            self.assertEqual(set(lots[settled:]), {lots[-1]})
            if settled:
                self.assertNotEqual(lots[settled - 1], lots[-1])

    def test_counts_of_any_size(self):
        machine = Machine(1, [(1,), (2,), (3,), (3,)])
        self.assertEqual([behind(machine, count) for count in (0, 1, 2, 3, 4)],
                         [(0, 1, 2, 3), (1, 2, 3), (2, 3), (3,), (3,)])
        self.assertEqual(behind(machine=machine, count=HUGE), (3,))
        self.assertEqual(settled_behind(machine=machine), 3)

    def test_one_state(self):
        self.assertEqual(behind(Machine(3, [(0, 0, 0)]), HUGE), (0,))
        self.assertEqual(settled_behind(Machine(3, [(0, 0, 0)])), 0)

    def test_a_ring_ahead_keeps_states(self):
        machine = Machine(2, [(0, 1), (2, 2), (2, 2), (0, 0)])
        self.assertEqual(behind(machine, HUGE), (0, 1, 2))
        self.assertEqual(settled_behind(machine), 1)

    def test_row_behind(self):
        for machine in machines(33):
            for count in (0, 1, 2, 3, 7):
                for state in behind(machine, count):
                    start, row = row_behind(machine, state, count)
                    self.assertEqual(len(row), count)
                    self.assertEqual(end_state(machine, start, row), state)


class JoinedTest(Case):
    def test_as_by_all_rows(self):
        for machine in machines(34):
            for count in range(4):
                wanted = tuple(
                    min(t for t in range(machine.states) if brute.are_joined(machine, s, t, count))
                    for s in range(machine.states)
                )
                self.assertEqual(joined(machine, count), wanted)

    def test_settled(self):
        for machine in machines(35):
            settled = settled_joined(machine)
            self.assertLess(settled, machine.states)
            told = [joined(machine, count) for count in range(machine.states + 1)]
            self.assertEqual(set(told[settled:]), {told[-1]})
            if settled:
                self.assertNotEqual(told[settled - 1], told[-1])

    def test_counts_of_any_size(self):
        machine = Machine(2, [(0, 1), (0, 2), (0, 3), (0, 3)])
        self.assertEqual([joined(machine, count) for count in (0, 1, 2, 3)],
                         [(0, 1, 2, 3), (0, 1, 2, 2), (0, 1, 1, 1), (0, 0, 0, 0)])
        self.assertEqual(joined(machine=machine, count=HUGE), (0, 0, 0, 0))
        self.assertEqual(settled_joined(machine=machine), 3)

    def test_one_command_one_state(self):
        self.assertEqual(joined(Machine(1, [(0,)]), HUGE), (0,))
        self.assertEqual(settled_joined(Machine(1, [(0,)])), 0)
        self.assertEqual(joined(Machine(1, [(1,), (1,)]), 1), (0, 0))

    def test_keeping_row(self):
        for machine in machines(36):
            for count in (0, 1, 2, 3, 6):
                least = joined(machine, count)
                for one in range(machine.states):
                    for other in range(machine.states):
                        if least[one] == least[other]:
                            self.raises_at(Refused, 0, keeping_row, machine, one, other, count)
                        else:
                            row = keeping_row(machine, one, other, count)
                            self.assertEqual(len(row), count)
                            self.is_all_tuples(row)
                            self.assertNotEqual(end_state(machine, one, row), end_state(machine, other, row))

    def test_keeping_long_rows(self):
        machine = Machine(2, [(1, 0), (2, 0), (0, 1)])
        self.raises_at(Refused, 0, keeping_row, machine, 2, 2, 10000)
        row = keeping_row(machine=machine, one=0, other=2, count=10000)
        self.assertEqual(len(row), 10000)
        self.assertNotEqual(end_state(machine, 0, row), end_state(machine, 2, row))
        joining = Machine(2, [(0, 1), (0, 2), (0, 3), (0, 3)])
        self.raises_at(Refused, 0, keeping_row, joining, 0, 1, 10000)


if __name__ == "__main__":
    unittest.main()
