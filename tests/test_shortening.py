"""Point 63: short rows."""

from random import Random

from endsandround.errors import InvalidRow, Refused
from endsandround.layers import settled_behind, settled_joined
from endsandround.machines import Machine
from endsandround.omissioncourt import omission_numbers
from endsandround.shortening import effect_by_ends, shortened
from tests import brute
from tests.checks import Case, Odd

WRONG_ROWS = ((None, 0), (3, 0), ("01", 0), ((0, 2), 1), ([0, -1], 1), ((True,), 0), ((0, 1.0), 1), ((0, None), 1),
              ({0: 1}, 0), (b"\0", 0), ([0, 1, 1, 5], 3), (Odd(), 0), ((Odd(),), 0), (range(2), 0))
BOTH = brute.beside(brute.first_memory(2), brute.last_memory(1), [((at + 1) % 6,) * 2 for at in range(6)])
NONE = Machine(2, [(0, 1), (1, 0)])
FAR = 10 ** 18


def machines():
    yield from brute.small_machines()
    yield from brute.random_machines(631, 40)
    yield from brute.counting_machines(632, 80)
    yield BOTH


def enough(machine):
    return settled_behind(machine) + settled_joined(machine)


class ShortenedTest(Case):
    def test_as_told(self):
        random = Random(633)
        for machine in machines():
            triple = omission_numbers(machine)
            least = enough(machine)
            for length in (0, 1, 2, 3, 4, 5, 7, 11, 20, 41):
                row = tuple(random.randrange(machine.commands) for _ in range(length))
                found = shortened(machine, row)
                self.assertEqual(found, shortened(machine, list(row)))
                self.is_all_tuples(found)
                self.assertEqual(brute.effect(machine, found), brute.effect(machine, row))
                if triple is None:
                    self.assertEqual(found, row)
                    continue
                first, last, block = triple
                out = length - len(found)
                self.assertEqual(found, row[:first] + row[first + out:])
                self.assertEqual(out % block, 0)
                self.assertLess(len(found), least + block if length >= least else length + 1)
                self.assertTrue(len(found) >= least or out == 0)

    def test_told(self):
        self.assertEqual(omission_numbers(BOTH), (2, 1, 6))
        row = [0, 1, 0, 0, 0, 0, 0, 0, 1, 1]
        self.assertEqual(shortened(machine=BOTH, row=row), (0, 1, 1, 1))
        self.assertEqual(row, [0, 1, 0, 0, 0, 0, 0, 0, 1, 1])
        self.assertEqual(shortened(BOTH, (0, 1) * 5000), (0, 1, 0, 1))
        self.assertEqual(shortened(NONE, [0, 1] * 5000), (0, 1) * 5000)

    def test_wrong_rows(self):
        for value, at in WRONG_ROWS:
            for machine in (BOTH, NONE):
                self.raises_at(InvalidRow, at, shortened, machine, value)


class EffectByEndsTest(Case):
    def test_as_by_all_rows(self):
        random = Random(634)
        for machine in machines():
            triple = omission_numbers(machine)
            if triple is None:
                self.raises_at(Refused, 0, effect_by_ends, machine, (), 5, ())
                continue
            first, last, _ = triple
            for length in range(enough(machine), enough(machine) + 8):
                for _ in range(3):
                    row = tuple(random.randrange(machine.commands) for _ in range(length))
                    found = effect_by_ends(machine, row[:first], length, row[length - last:])
                    self.assertEqual(found, brute.effect(machine, row))
                    self.assertEqual(found, effect_by_ends(machine, list(row[:first]), length, list(row[length - last:])))

    def test_far_lengths(self):
        for length in (FAR, FAR - 1, FAR - 5, 10 ** 9 + 7):
            near = length % 6 + 12
            self.assertEqual(
                effect_by_ends(BOTH, (1, 0), length, (1,)), brute.effect(BOTH, (1, 0) + (0,) * (near - 3) + (1,))
            )
        turning = Machine(1, [(1,), (2,), (0,)])
        self.assertEqual(effect_by_ends(machine=turning, beginning=(), length=FAR, end=()), (1, 2, 0))
        self.is_all_tuples(effect_by_ends(BOTH, [1, 0], FAR, [1]))

    def test_refused_in_this_order(self):
        least = enough(BOTH)
        self.assertEqual(least, 3)
        for value, at in WRONG_ROWS:
            self.raises_at(InvalidRow, at, effect_by_ends, BOTH, value, 0, value)
            self.raises_at(InvalidRow, at, effect_by_ends, BOTH, (0, 1), 0, value)
            self.raises_at(InvalidRow, at, effect_by_ends, NONE, value, 0, None)
            self.raises_at(InvalidRow, at, effect_by_ends, NONE, (0,), 0, value)
        self.raises_at(InvalidRow, 1, effect_by_ends, BOTH, (0, 2), 0, (2,))
        self.raises_at(Refused, 0, effect_by_ends, NONE, (0,), 0, (0, 0))
        for beginning in ((), (0,), (0, 1, 0)):
            self.raises_at(Refused, 1, effect_by_ends, BOTH, beginning, 0, ())
        for length in (0, 1, 2):
            self.raises_at(Refused, 2, effect_by_ends, BOTH, (0, 1), length, ())
        for end in ((), (0, 1)):
            self.raises_at(Refused, 3, effect_by_ends, BOTH, (0, 1), 3, end)
        self.assertEqual(effect_by_ends(BOTH, (0, 1), 3, (1,)), brute.effect(BOTH, (0, 1, 1)))
