"""Points 1, 2, 5 and 6: kinds of values, machines, rows and effects."""

import unittest

from endsandround.errors import InvalidMachine, InvalidRow, Refused
from endsandround.machines import (
    Machine,
    checked_row,
    effect,
    effects_of_length,
    end_state,
    followed,
    reached,
    reaching_row,
    row_for,
)
from endsandround.questions import Question
from tests import brute
from tests.checks import Case

WRONG_ROWS = (
    ((0, 1, 2), 2),
    ((0, True, 1), 1),
    ([-1], 0),
    ((0, 0, "1"), 2),
    ((1, None), 1),
    ((0, 1.0), 1),
    ((0, [1]), 1),
    ("01", 0),
    (None, 0),
    (5, 0),
    ({0: 1}, 0),
    (range(2), 0),
    (iter([0]), 0),
)


class MachineTest(Case):
    def test_attributes(self):
        machine = Machine(2, [[0, 1], (1, 0)])
        self.assertEqual((machine.commands, machine.states, machine.steps), (2, 2, ((0, 1), (1, 0))))
        self.is_all_tuples(machine.steps)

    def test_named_arguments(self):
        self.assertEqual(Machine(steps=[(0,)], commands=1).steps, ((0,),))

    def test_one_command_one_state(self):
        machine = Machine(1, ((0,),))
        self.assertEqual((machine.commands, machine.states), (1, 1))

    def test_later_changes_have_no_effect(self):
        entry = [0, 1]
        steps = [entry, [1, 1]]
        machine = Machine(2, steps)
        entry[0] = 1
        steps.append([0, 0])
        self.assertEqual(machine.steps, ((0, 1), (1, 1)))
        self.assertEqual(machine.states, 2)

    def test_equal(self):
        machine = Machine(2, [(0, 1), (1, 0)])
        self.assertTrue(machine == Machine(2, [[0, 1], [1, 0]]))
        self.assertFalse(machine == Machine(2, [(0, 1), (1, 1)]))
        self.assertFalse(Machine(1, [(0,), (0,)]) == Machine(1, [(0,)]))
        self.assertTrue(machine != Machine(2, [(0, 0)]))

    def test_equals_no_value_of_another_kind(self):
        machine = Machine(1, [(0,)])
        for other in (((0,),), 1, None, "machine", (1, 1, ((0,),)), Question(machine, 0, (0,))):
            self.assertFalse(machine == other)
            self.assertFalse(other == machine)

    def test_wrong_commands(self):
        for commands in (0, -1, True, "2", None, 1.0, (1,)):
            self.raises_at(InvalidMachine, 0, Machine, commands, [(0,)])
        self.raises_at(InvalidMachine, 0, Machine, 0, "steps")

    def test_wrong_steps(self):
        for steps in ((), [], "01", None, 3, {0: (0,)}, range(1)):
            self.raises_at(InvalidMachine, 1, Machine, 1, steps)

    def test_wrong_entry(self):
        for entry in ((0,), (0, 0, 0), (0, 2), (0, -1), (True, 0), (0, "0"), "00", None, 0, (0, 1.0), {0: 0, 1: 0}):
            self.raises_at(InvalidMachine, 2, Machine, 2, [entry, (0, 1)])
            self.raises_at(InvalidMachine, 3, Machine, 2, [(0, 1), entry])
        self.raises_at(InvalidMachine, 3, Machine, 2, [(0, 1), (0,), (0, 9), None])
        self.raises_at(InvalidMachine, 2, Machine, 10 ** 40, [(0,)])


class RowTest(Case):
    def test_checked_row(self):
        self.assertEqual(checked_row(3, [2, 0, 1]), (2, 0, 1))
        self.assertEqual(checked_row(3, ()), ())
        self.assertEqual(checked_row(1, []), ())
        self.assertIs(type(checked_row(2, [0, 1])), tuple)
        self.assertEqual(checked_row(commands=2, value=[1]), (1,))
        self.assertEqual(checked_row(2, [0, 1] * 5000), (0, 1) * 5000)

    def test_wrong_rows(self):
        for row, at in WRONG_ROWS:
            self.raises_at(InvalidRow, at, checked_row, 2, row)
        self.raises_at(InvalidRow, 0, checked_row, 1, (1, 2))

    def test_a_handed_list_can_change_later(self):
        row = [0, 1]
        kept = checked_row(2, row)
        row.append(1)
        self.assertEqual(kept, (0, 1))

    def test_end_state(self):
        machine = Machine(2, [(1, 0), (2, 0), (2, 1)])
        self.assertEqual(end_state(machine, 0, (0, 0, 1)), 1)
        self.assertEqual(end_state(machine, 1, ()), 1)
        self.assertEqual(end_state(machine=machine, state=2, row=[1, 1]), 0)
        self.assertEqual(end_state(machine, 0, [0, 1] * 5000), 0)

    def test_end_state_refuses(self):
        machine = Machine(2, [(1, 0), (0, 1)])
        for state in (2, -1, True, "0", None, 0.0, (0,)):
            self.raises_at(Refused, 0, end_state, machine, state, (0, 1))
            self.raises_at(Refused, 0, end_state, machine, state, "row")
        for row, at in WRONG_ROWS:
            self.raises_at(InvalidRow, at, end_state, machine, 0, row)


class EffectTest(Case):
    def test_effect(self):
        machine = Machine(2, [(1, 0), (2, 0), (2, 1)])
        self.assertEqual(effect(machine, ()), (0, 1, 2))
        self.assertEqual(effect(machine, [0]), (1, 2, 2))
        self.assertEqual(effect(machine=machine, row=(0, 1)), (0, 1, 1))
        for row, at in WRONG_ROWS:
            self.raises_at(InvalidRow, at, effect, machine, row)

    def test_effect_and_followed_as_by_running(self):
        for machine in brute.random_machines(1, 40):
            for one in brute.rows(machine.commands, 3):
                found = effect(machine, one)
                self.assertEqual(found, brute.effect(machine, one))
                for other in brute.rows(machine.commands, 2):
                    self.assertEqual(followed(found, effect(machine, other)), effect(machine, one + other))

    def test_followed(self):
        self.assertEqual(followed((1, 2, 0), (5, 6, 7)), (6, 7, 5))
        self.assertEqual(followed(one=(0, 0), other=(1, 0)), (1, 1))
        self.is_all_tuples(followed((0, 1), (1, 0)))

    def test_effects_of_length(self):
        for machine in brute.random_machines(2, 40):
            for length in range(5):
                wanted = {brute.effect(machine, row) for row in brute.rows(machine.commands, length)}
                self.assertEqual(effects_of_length(machine, length), tuple(sorted(wanted)))

    def test_effects_of_great_lengths(self):
        turn = Machine(1, [(1,), (2,), (0,)])
        self.assertEqual(effects_of_length(turn, 1000), ((1, 2, 0),))
        self.assertEqual(effects_of_length(machine=turn, length=999), ((0, 1, 2),))
        both = Machine(2, [(1, 1), (2, 0), (0, 2)])
        self.assertEqual(len(effects_of_length(both, 1000)), 6)
        parity = Machine(2, [(1, 1), (0, 0)])
        self.assertEqual(effects_of_length(parity, 0), ((0, 1),))
        self.assertEqual(effects_of_length(parity, 1000), ((0, 1),))

    def test_many_effects(self):
        # All 720 permutations of six states, those of odd and even ones in turns.
        machine = Machine(2, [(1, 1), (2, 0), (3, 2), (4, 3), (5, 4), (0, 5)])
        odd, even = effects_of_length(machine, 999), effects_of_length(machine, 1000)
        self.assertEqual(len({*odd, *even}), 720)

    def test_row_for(self):
        for machine in brute.random_machines(3, 40, states=(1, 2, 3)):
            firsts = {}
            for length in range(6):
                for row in brute.rows(machine.commands, length):
                    firsts.setdefault(brute.effect(machine, row), row)
            for wanted, row in firsts.items():
                self.assertEqual(row_for(machine, wanted), row)

    def test_row_for_what_no_row_does(self):
        machine = Machine(2, [(1, 0), (0, 1)])
        self.assertIsNone(row_for(machine, (0, 0)))
        self.assertEqual(row_for(machine, (0, 1)), ())
        self.assertEqual(row_for(machine=machine, wanted=(1, 0)), (0,))

    def test_row_for_what_is_no_tuple_of_states(self):
        machine = Machine(2, [(1, 0), (0, 1)])
        wrong = ([1, 0], (True, 0), (1.0, 0.0), (1,), (1, 0, 0), (), None, "10", 5, ([1], 0), (2, 0), (-1, 0), {1: 0})
        for wanted in wrong:
            self.assertIsNone(row_for(machine, wanted))

    def test_reached(self):
        machine = Machine(2, [(1, 1), (1, 3), (0, 2), (3, 1)])
        self.assertEqual(reached(machine, 0), (0, 1, 3))
        self.assertEqual(reached(machine, 1), (1, 3))
        self.assertEqual(reached(machine=machine, start=2), (0, 1, 2, 3))

    def test_reaching_row(self):
        for machine in brute.random_machines(4, 40):
            for start in range(machine.states):
                firsts = {}
                for length in range(machine.states):
                    for row in brute.rows(machine.commands, length):
                        firsts.setdefault(brute.run(machine, start, row), row)
                self.assertEqual(reached(machine, start), tuple(sorted(firsts)))
                for state in range(machine.states):
                    if state in firsts:
                        self.assertEqual(reaching_row(machine, start, state), firsts[state])
                    else:
                        self.raises_at(Refused, 0, reaching_row, machine, start, state)

    def test_reaching_row_takes_the_first(self):
        machine = Machine(3, [(1, 2, 2), (0, 3, 3), (3, 0, 0), (3, 3, 3)])
        self.assertEqual(reaching_row(machine, 0, 3), (0, 1))
        self.assertEqual(reaching_row(machine=machine, start=0, state=0), ())


if __name__ == "__main__":
    unittest.main()
