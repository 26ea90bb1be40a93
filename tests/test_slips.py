"""Point 60: slips."""

from endsandround.machines import Machine
from endsandround.slips import is_slip, never_counts, slip
from tests import brute
from tests.checks import Case, Odd

LAST = Machine(2, brute.last_memory(1))


class SlipTest(Case):
    def check(self, machine, before, after, never):
        self.assertIs(never_counts(machine, before, after), never)
        shown = slip(machine, before, after)
        self.assertEqual(shown is None, never)
        if shown is not None:
            self.is_all_tuples(shown)
            filling, command, state = shown
            self.assertEqual(len(filling), before + 1 + after)
            other = (*filling[:before], command, *filling[before + 1:])
            self.assertNotEqual(brute.run(machine, state, filling), brute.run(machine, state, other))
            self.assertIs(is_slip(machine, before, after, shown), True)

    def test_as_by_all_rows(self):
        for machine in (*brute.small_machines(), *brute.random_machines(601, 40), *brute.counting_machines(602, 60)):
            for before in range(3):
                for after in range(3):
                    self.check(machine, before, after, brute.never_counts(machine, before, after))

    def test_more_before_and_behind(self):
        for machine in brute.counting_machines(603, 80):
            for before in range(4):
                for after in range(4):
                    if never_counts(machine, before, after):
                        self.assertTrue(never_counts(machine, before + 1, after))
                        self.assertTrue(never_counts(machine, before, after + 1))

    def test_up_to_10000(self):
        self.check(Machine(2, brute.last_memory(3)), 10000, 2, False)
        self.check(Machine(2, brute.last_memory(3)), 10000, 3, True)
        self.check(Machine(2, brute.first_memory(3)), 2, 10000, False)
        self.check(Machine(2, brute.first_memory(3)), 3, 10000, True)
        self.check(Machine(5, [(0, 1, 2, 3, 4), (1, 2, 3, 4, 0), (2,) * 5, (0,) * 5, (1,) * 5]), 10000, 10000, False)
        self.check(Machine(5, [[(state + 1) % 10] * 5 for state in range(10)]), 10000, 10000, True)

    def test_checker_as_by_all(self):
        for machine in (*brute.random_machines(604, 12, commands=(1, 2), states=(2, 3)), LAST):
            for before in range(3):
                for row in brute.rows(machine.commands, 3):
                    for command in range(machine.commands):
                        for state in range(machine.states):
                            other = (*row[:before], command, *row[before + 1:])
                            wanted = brute.run(machine, state, row) != brute.run(machine, state, other)
                            self.assertIs(is_slip(machine, before, 2 - before, (row, command, state)), wanted)

    def test_no_slips(self):
        self.assertIs(is_slip(machine=LAST, before=1, after=0, value=((0, 1), 0, 0)), True)
        for value in (None, 3, (), ((0, 1), 0), ((0, 1), 0, 0, 0), [(0, 1), 0, 0], ([0, 1], 0, 0), ((0, 1), 1, 0),
                      ((0, 1), 2, 0), ((0, 1), -1, 0), ((0, 1), 0, 2), ((0, 1), 0, -1), ((0, 1), False, 0),
                      ((0, 1), 0, False), ((0, 1, 1), 0, 0), ((1,), 0, 0), ((0, 2), 0, 0), ((0, True), 0, 0),
                      ("01", 0, 0), ((0, 1), None, 0), ((0, 1), 0, None), Odd(), (Odd(), 0, 0), ((0, 1), Odd(), 0),
                      ((0, 1), 0, Odd())):
            self.assertIs(is_slip(LAST, 1, 0, value), False)

    def test_told(self):
        self.assertEqual(never_counts(machine=LAST, before=0, after=1), True)
        self.assertIsNone(slip(machine=LAST, before=3, after=1))
        self.assertIsNotNone(slip(machine=LAST, before=3, after=0))
