"""Point 66: macros."""

from itertools import product
from math import gcd
from random import Random

from endsandround.court import numbers
from endsandround.errors import InvalidRow
from endsandround.machines import Machine
from endsandround.macros import macro_triple, with_macros
from tests import brute
from tests.checks import Case, Odd

TURNS = Machine(2, [(1, 0), (0, 2), (2, 1)])


class MacrosTest(Case):
    def test_as_told(self):
        random = Random(661)
        for machine in brute.random_machines(662, 60):
            rows = [
                tuple(random.randrange(machine.commands) for _ in range(random.randrange(1, 6)))
                for _ in range(random.randrange(1, 6))
            ]
            found = with_macros(machine, rows)
            self.assertEqual((found.commands, found.states), (len(rows), machine.states))
            for at, row in enumerate(rows):
                self.assertEqual(tuple(entry[at] for entry in found.steps), brute.effect(machine, row))
            self.assertEqual(found, with_macros(machine, tuple(list(row) for row in rows)))
            self.is_all_tuples(found.steps)

    def test_the_document_s_examples(self):
        self.assertEqual(macro_triple((3, 1, 12), 2), (2, 1, 6))
        self.assertEqual(numbers(with_macros(TURNS, [(0, 1), (1, 0), (1, 1), (0, 0)])), (0, 0, 1))
        self.assertIsNone(numbers(with_macros(machine=TURNS, rows=[(0,), (0, 1)])))

    def test_wrong_rows(self):
        for value, at in (
            (None, 0), (3, 0), ("01", 0), ({0: (1,)}, 0), ((), 0), ([], 0), (Odd(), 0), (b"01", 0), ((0,), 0),
            (((0,), ()), 1), ([[0], [1, 2]], 1), (((0,), (1,), None), 2), (((0,), "1"), 1), (((-1,), (0,)), 0),
            (([0], [True]), 1), (((0, 1.0),), 0), (((0,), (1,), (0, Odd())), 2), (((0,), {0: 1}), 1), (((0,), b"\0"), 1),
        ):
            self.raises_at(InvalidRow, at, with_macros, TURNS, value)

    def test_nothing_is_changed(self):
        rows = [[0, 1], [1]]
        found = with_macros(TURNS, rows)
        rows[0][0] = 1
        self.assertEqual(found, with_macros(TURNS, [[0, 1], [1]]))

    def test_long_rows(self):
        machine = with_macros(TURNS, [(0, 1) * 5000, (1,)])
        self.assertEqual(machine.steps[0][0], brute.run(TURNS, 0, (0, 1) * 5000))


class MacroTripleTest(Case):
    def test_as_told(self):
        for first, last, step, length in product(range(6), range(4), (1, 2, 4, 6, 12), range(1, 8)):
            wanted = (-(-first // length), -(-last // length), step // gcd(step, length))
            self.assertEqual(macro_triple((first, last, step), length), wanted)
        self.assertIsNone(macro_triple(None, 3))
        self.assertEqual(macro_triple(triple=(10 ** 30, 1, 10 ** 18), length=10 ** 17), (10 ** 13, 1, 10))

    def test_all_rows_of_a_length(self):
        random = Random(663)
        found = {}
        parts = (brute.wheel(4), brute.wheel(6), brute.first_memory(3), brute.last_memory(3), brute.wheel(3))
        machines = [brute.beside(*random.sample(parts, random.choice((1, 2)))) for _ in range(15)]
        for machine in (*machines, *brute.near_machines(664, 40), *brute.random_machines(665, 20)):
            for length in (1, 2, 3) if machine.commands < 3 else (1, 2):
                rows = brute.rows(machine.commands, length)
                rows += random.choices(rows, k=random.randrange(3))
                random.shuffle(rows)
                triple = numbers(machine)
                found[triple] = True
                self.assertEqual(numbers(with_macros(machine, rows)), macro_triple(triple, length))
        self.assertGreater(len(found), 8)

    def test_rows_with_one_remainder(self):
        random = Random(666)
        for machine in brute.near_machines(667, 120):
            triple = numbers(machine)
            if triple is None:
                continue
            first, last, step = triple
            rest = random.randrange(step)
            lengths = [length for length in range(1, 3 * step + 2) if length % step == rest]
            rows = [
                tuple(random.randrange(machine.commands) for _ in range(random.choice(lengths)))
                for _ in range(random.randrange(1, 5))
            ]
            found = numbers(with_macros(machine, rows))
            least = min(map(len, rows))
            self.assertLessEqual(found[0], -(-first // least))
            self.assertLessEqual(found[1], -(-last // least))
            self.assertEqual(step // gcd(step, rest) % found[2], 0)
