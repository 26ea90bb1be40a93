"""Points 73 and 74: fewer commands, and mending."""

from itertools import combinations, product
from random import Random

from endsandround.court import numbers
from endsandround.errors import InvalidTriple, Refused
from endsandround.machines import Machine
from endsandround.mending import is_mended, least_mends, reasons, serves, without
from tests import brute
from tests.checks import Case, Odd

FOUR = Machine(4, [(1, 0, 2, 0), (0, 2, 1, 0), (2, 1, 0, 0)])
BEYOND = brute.beside(*[brute.wheel(step) for step in (2, 3, 5, 7, 11, 13)])
WRONG_BARRED = (
    (None, 0), (3, 0), ("01", 0), ([], 0), ([0], 0), ({0: 1}, 0), (Odd(), 0), (b"\0", 0), ((-1,), 0), ((4,), 0),
    ((0, 4), 1), ((1, 0), 1), ((0, 0), 1), ((0, 2, 1), 2), ((True,), 0), ((0, True), 1), ((0, 1.0), 1), ((0, None), 1),
    ((0, 1, "2"), 2), ((Odd(),), 0), ((0, 1, 2, 3), 4), ((0, 1, 2, 3, 4), 4), ((0, 1, 2, 3, 3), 4),
)
WRONG_WISHES = (None, 3, "001", (), (0, 0), (0, 0, 1, 1), [0, 0, 1], (0, 0, 0), (-1, 0, 1), (0, -1, 1), (0, 0, -1),
                (True, 0, 1), (0, 0, True), (0, 0.0, 1), (0, 0, None), Odd(), (Odd(), 0, 1), b"\0\0\1")


def tuples(commands):
    return [barred for many in range(commands) for barred in combinations(range(commands), many)]


def serves_slowly(triple, wish):
    return triple is not None and triple[0] <= wish[0] and triple[1] <= wish[1] and wish[2] % triple[2] == 0


def machines():
    yield from brute.near_machines(741, 40, commands=(2, 3, 4, 5), states=(2, 3, 4))
    yield from brute.random_machines(742, 20, commands=(1, 2, 3, 4), states=(2, 3))
    yield brute.wheels_by_command((2, 3, 2))
    yield FOUR


class WithoutTest(Case):
    def test_as_told(self):
        for machine in machines():
            for barred in tuples(machine.commands):
                left = [command for command in range(machine.commands) if command not in barred]
                found = without(machine, barred)
                self.assertEqual(found, Machine(len(left), [[entry[c] for c in left] for entry in machine.steps]))
        self.assertEqual(without(machine=FOUR, barred=(0, 2, 3)), Machine(1, [(0,), (2,), (1,)]))

    def test_refused(self):
        for value, at in WRONG_BARRED:
            self.raises_at(Refused, at, without, FOUR, value)
        self.raises_at(Refused, 1, without, Machine(1, [(0,)]), (0,))


class ServesTest(Case):
    def test_as_told(self):
        triples = list(product((0, 1, 3), (0, 2), (1, 2, 3, 6)))
        for triple, wish in product([None, *triples], triples):
            self.assertIs(serves(triple, wish), serves_slowly(triple, wish))
        self.assertIs(serves(triple=(0, 0, 3), wish=(10 ** 30, 0, 3 * 10 ** 18)), True)

    def test_wrong_wishes(self):
        for wish in WRONG_WISHES:
            for triple in (None, (0, 0, 1)):
                self.raises_at(InvalidTriple, 0, serves, triple, wish)


class MendingTest(Case):
    def test_as_by_trying_all(self):
        random = Random(743)
        some = {}
        for machine in machines():
            wish = (random.randrange(3), random.randrange(3), random.choice((1, 1, 2, 3, 6)))
            mending = [b for b in tuples(machine.commands) if serves_slowly(numbers(without(machine, b)), wish)]
            least = [b for b in mending if not any(set(other) < set(b) for other in mending)]
            for barred in tuples(machine.commands):
                self.assertIs(is_mended(machine, wish, barred), barred in mending)
            self.assertEqual(least_mends(machine, wish), tuple(sorted(least)))
            self.assertTrue(least)
            some[len(least)] = True
            for barred in mending:
                told = reasons(machine, wish, barred)
                wanted = tuple(tuple(c for c in barred if c != command) not in mending for command in barred)
                self.assertEqual(told, wanted)
                self.assertEqual(all(told), barred in least)
                for more in tuples(machine.commands):
                    if set(barred) <= set(more):
                        self.assertIn(more, mending)
        self.assertGreater(len(some), 2)

    def test_told(self):
        self.assertIs(is_mended(machine=FOUR, wish=(0, 0, 1), barred=(1, 2, 3)), True)
        self.is_all_tuples(least_mends(machine=FOUR, wish=(0, 0, 2)))
        self.assertEqual(reasons(machine=FOUR, wish=(0, 0, 1), barred=(1, 2, 3))[0], not is_mended(FOUR, (0, 0, 1), (2, 3)))
        idle = Machine(3, [(0, 0, 0), (1, 1, 1)])
        self.assertEqual(least_mends(idle, (0, 0, 1)), ((),))
        self.assertEqual(reasons(idle, (0, 0, 1), (0, 2)), (False, False))

    def test_ten_commands(self):
        machine = brute.wheels_by_command((2, 3, 2, 3, 2, 3, 2, 3, 4))
        found = least_mends(machine, (0, 0, 2))
        # Without the wheels of 3 and 4 places, or with one command of these alone.
        alone = [tuple(c for c in range(10) if c != command) for command in (2, 4, 6, 8, 9)]
        self.assertEqual(found, tuple(sorted([(2, 4, 6, 8, 9), *alone])))
        for barred in found:
            self.assertTrue(is_mended(machine, (0, 0, 2), barred))
            self.assertEqual(reasons(machine, (0, 0, 2), barred), (True,) * len(barred))
        self.assertEqual(least_mends(machine, (0, 0, 12)), ((),))

    def test_errors_in_this_order(self):
        for wish in WRONG_WISHES:
            self.raises_at(InvalidTriple, 0, is_mended, FOUR, wish, None)
            self.raises_at(InvalidTriple, 0, least_mends, BEYOND, wish)
            self.raises_at(InvalidTriple, 0, reasons, FOUR, wish, ())
        for value, at in WRONG_BARRED:
            self.raises_at(Refused, at, is_mended, FOUR, (0, 0, 1), value)
        self.raises_at(Refused, 1, is_mended, BEYOND, (0, 0, 1), (0, 7))
        self.raises_at(Refused, 5000, is_mended, BEYOND, (0, 0, 1), ())
        self.raises_at(Refused, 5000, least_mends, BEYOND, (0, 0, 1))
        self.assertIs(is_mended(BEYOND, (0, 0, 1), (0,)), True)
        self.raises_at(Refused, 5000, reasons, BEYOND, (0, 0, 1), (0,))
