"""Point 31: counts."""

from random import Random

from endsandround.counts import effect_of_counts, row_counts
from endsandround.errors import InvalidRow, NotReversible, Refused
from endsandround.machines import Machine, effect
from endsandround.reversible import free_step, repeated, reversible_numbers
from tests import brute
from tests.checks import Case

TURNS = Machine(2, [(1, 0), (0, 2), (2, 1)])
WHEEL = Machine(2, brute.wheel(3))
SHUFFLES = brute.group_machine((1, 2, 0), (1, 0, 2))
NOT = Machine(2, [(1, 0), (0, 0)])


class Odd:
    """Something else."""


def machines_with_numbers(seed, many):
    for machine in brute.reversible_machines(seed, many):
        if reversible_numbers(machine, 0) is not None:
            yield machine


class CountsTest(Case):
    def test_row_counts(self):
        random = Random(311)
        for machine in machines_with_numbers(311, 60):
            for base in range(machine.commands):
                step = free_step(machine, base)
                for length in (0, 1, 2, 7, 30):
                    row = tuple(random.randrange(machine.commands) for _ in range(length))
                    told = row_counts(machine, base, row)
                    self.is_all_tuples(told)
                    wanted = tuple(
                        tuple(
                            len([at for at in range(length) if row[at] == command and at % step == r])
                            for command in range(machine.commands)
                        )
                        for r in range(step)
                    )
                    self.assertEqual(told, wanted)
                    self.assertEqual(effect_of_counts(machine, base, told), effect(machine, row))

    def test_told(self):
        self.assertEqual(row_counts(machine=WHEEL, base=0, row=[0, 1, 1, 1, 0]), ((1, 1), (1, 1), (0, 1)))
        self.assertEqual(row_counts(WHEEL, 1, ()), ((0, 0),) * 3)
        self.assertEqual(row_counts(TURNS, 0, (1,) * 10000), ((0, 5000), (0, 5000)))
        told = effect_of_counts(machine=TURNS, base=1, counts=[[2, 1], (1, 2)])
        self.assertEqual(told, effect(TURNS, (0, 1, 1, 1, 0, 0)))
        self.is_all_tuples(told)

    def test_rows_with_the_same_counts_have_the_same_effect(self):
        for machine in (TURNS, WHEEL, brute.beside(brute.wheel(2), brute.wheel(1))):
            for base in (0, 1):
                for length in range(8):
                    for row in brute.rows(2, length):
                        counts = row_counts(machine, base, row)
                        self.assertEqual(effect_of_counts(machine, base, counts), brute.effect(machine, row))

    def test_great_counts(self):
        great = 10 ** 18 - 1
        counts = ((great, 0), (great, 0), (0, great))
        told = effect_of_counts(WHEEL, 0, counts)
        # An odd number of turned bits at one place of the wheel, and a number of entries that 3 divides.
        self.assertEqual(told, effect(WHEEL, (0, 0, 1)))
        less = ((great, 0), (great, 0), (0, great - 1))
        self.assertEqual(effect_of_counts(WHEEL, 0, less), repeated(WHEEL, 0, 3 * great - 1))
        self.assertEqual(effect_of_counts(Machine(1, [(1,), (2,), (0,)]), 0, [[great]]), (0, 1, 2))

    def test_one_command_or_state(self):
        machine = Machine(1, [(1,), (2,), (0,)])
        self.assertEqual(row_counts(machine, 0, (0, 0, 0, 0)), ((4,),))
        self.assertEqual(effect_of_counts(machine, 0, ((4,),)), (1, 2, 0))
        self.assertEqual(effect_of_counts(machine, 0, ((0,),)), (0, 1, 2))
        self.assertEqual(effect_of_counts(Machine(2, [(0, 0)]), 1, ((3, 4),)), (0,))

    def test_wrong_rows(self):
        for value, at in ((None, 0), (3, 0), ("01", 0), ((0, 2), 1), ([1, None], 1), ((0, 1, True), 2), ((-1,), 0)):
            self.raises_at(InvalidRow, at, row_counts, TURNS, 0, value)

    def test_wrong_counts(self):
        for value in (None, 5, "ab", Odd(), {0: (1, 1)}, (), ((1, 1),), ((1, 1), (1, 1)), ((1, 1),) * 4, []):
            self.raises_at(InvalidRow, 3, effect_of_counts, WHEEL, 0, value)
        for value, at in (
            (((1, 1), (1, 1), None), 2), ((None, (1, 1), None), 0), (((1, 1), (1,), (1, 1)), 1),
            (((1, 1), (1, 1), (1, 1, 0)), 2), (((1, -1), (1, 1), (1, 1)), 0), (((1, 1), (1, "1"), (1, 1)), 1),
            (((1, 1), (1, True), (1, 1)), 1), (((1, 1), (1.0, 1), (1, 1)), 1), (((1, 1), "11", (1, 1)), 1),
            (((1, 1), Odd(), (1, 1)), 1), ((5, 5, 5), 0), (((1, 1), {0: 1, 1: 1}, (1, 1)), 1),
            (((9, 9), (1, 1), (1, None)), 2),
        ):
            self.raises_at(InvalidRow, at, effect_of_counts, WHEEL, 1, value)

    def test_counts_of_no_row(self):
        for sums in ((a, b, c) for a in range(4) for b in range(4) for c in range(4)):
            length = sum(sums)
            fits = [len(range(r, length, 3)) for r in range(3)]
            wrong = [r for r in range(3) if fits[r] != sums[r]]
            counts = tuple((many // 2, many - many // 2) for many in sums)
            if wrong:
                self.raises_at(InvalidRow, wrong[0], effect_of_counts, WHEEL, 0, counts)
            else:
                self.assertEqual(len(effect_of_counts(WHEEL, 0, counts)), 6)

    def test_which_error_comes_first(self):
        for value in (None, (0, 1), ((1, 1), (1, 1))):
            self.raises_at(NotReversible, 1, row_counts, NOT, 0, value)
            self.raises_at(NotReversible, 1, effect_of_counts, NOT, 0, value)
            self.raises_at(Refused, 0, row_counts, SHUFFLES, 0, value)
            self.raises_at(Refused, 0, effect_of_counts, SHUFFLES, 0, value)

    def test_lists_stay_as_they_are(self):
        counts = [[1, 1], [1, 0]]
        told = effect_of_counts(TURNS, 0, counts)
        self.assertEqual(counts, [[1, 1], [1, 0]])
        counts[0][0] = 9
        self.assertEqual(told, effect(TURNS, (0, 0, 1)))
        row = [0, 1, 1]
        found = row_counts(TURNS, 0, row)
        row[0] = 1
        self.assertEqual(found, ((1, 1), (0, 1)))
