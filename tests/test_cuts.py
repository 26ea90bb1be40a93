"""Points 22 and 23: harms, cuts, walked harms."""

from random import Random

from endsandround.cuts import open_entries, walked_harm, width
from endsandround.errors import InvalidReordering, Refused
from endsandround.judge import is_harm
from endsandround.machines import Machine
from tests import brute
from tests.checks import WRONG_REORDERINGS, Case

NONE = Machine(2, [(0, 1), (0, 0)])
SUMS = {many: Machine(many, [[(state + c) % 10 for c in range(many)] for state in range(10)]) for many in range(1, 6)}
BEYOND = brute.beside(*[brute.wheel(step) for step in (2, 3, 5, 7, 11, 13)])


class Odd:
    """Something else."""


def exchanged_pairs(many):
    """The reordering of so many places that exchanges each two neighbours."""
    return tuple(at ^ 1 for at in range(many))


def blocks(many, size):
    """The reordering that exchanges the halves of each whole block."""
    whole = many // size * size
    moved = tuple(at // size * size + (at % size + size // 2) % size for at in range(whole))
    return moved + tuple(range(whole, many))


def narrow(random, many, most):
    """A reordering in which at most so many entries are open at a cut."""
    places = tuple(range(many))
    for _ in range(150):
        i = random.randrange(many - 1)
        j = min(many - 1, i + random.randrange(1, most))
        changed = brute.swapped(places, i, j)
        if width(changed) <= most:
            places = changed
    return places


class HarmTest(Case):
    def test_as_by_trying(self):
        for machine in (*brute.near_machines(221, 10, commands=(2,), states=(2, 3)), NONE):
            for p in ((1, 0, 2), (2, 0, 1), (0, 1, 2), (2, 1, 0)):
                for row in brute.rows(2, 3):
                    for state in range(machine.states):
                        wanted = brute.is_harm(machine, p, (row, state))
                        self.assertIs(is_harm(machine, p, (row, state)), wanted)

    def test_a_reordering_is_harmless_if_it_has_no_harm(self):
        for machine in brute.small_machines():
            for p in brute.reorderings(3):
                some = any(
                    is_harm(machine, p, (row, state))
                    for row in brute.rows(machine.commands, 3) for state in range(machine.states)
                )
                self.assertEqual(some, not brute.is_harmless(machine, p))

    def test_what_is_no_harm(self):
        p = (1, 0, 2)
        filling, state = good = walked_harm(NONE, p)
        self.assertIs(is_harm(machine=NONE, reordering=p, value=good), True)
        self.assertIs(is_harm(NONE, list(p), good), True)
        wrong = (
            None, 3, "harm", (), Odd(), list(good), good[:1], (*good, 0), (list(filling), state), (filling, -1),
            (filling, 2), (filling, None), (filling, bool(state)), (filling, state + 0.0), (filling, Odd()),
            (state, filling), (None, state), (filling[1:], state), ((*filling, 0), state), ((2, *filling[1:]), state),
            ((None,) * 3, state), ((0, 0, 0), state), (tuple(bool(c) for c in filling), state), (Odd(), Odd()),
            (tuple(float(c) for c in filling), state), {0: filling, 1: state},
        )
        for value in wrong:
            self.assertIs(is_harm(NONE, p, value), False, value)
        self.assertIs(is_harm(NONE, (), ((), 0)), False)

    def test_400_places(self):
        p = tuple(range(400))[::-1]
        self.assertIs(is_harm(NONE, p, ((0,) * 399 + (1,), 0)), True)
        self.assertIs(is_harm(NONE, p, ((1,) * 399 + (1,), 0)), False)

    def test_wrong_reorderings(self):
        for value, at in WRONG_REORDERINGS:
            self.raises_at(InvalidReordering, at, is_harm, NONE, value, ((0, 1), 0))

    def test_no_numbers_are_needed(self):
        self.assertIs(is_harm(BEYOND, (1, 0), ((0, 1), 0)), True)


class CutTest(Case):
    def test_as_the_document_says(self):
        for many in range(6):
            for p in brute.reorderings(many):
                told = []
                for cut in range(many + 1):
                    wanted = tuple(i for i in range(many) if sum([i < cut, p[i] < cut]) == 1)
                    self.assertEqual(open_entries(p, cut), wanted)
                    self.assertEqual(len([i for i in wanted if i < cut]) * 2, len(wanted))
                    told.append(len(wanted))
                self.assertEqual(width(p), max(told))

    def test_told(self):
        self.assertEqual(open_entries(reordering=[2, 0, 1], cut=1), (0, 1))
        self.assertEqual(open_entries((2, 0, 1), 2), (0, 2))
        self.assertEqual(width(reordering=[2, 0, 1]), 2)
        self.assertEqual((open_entries((), 0), width(())), ((), 0))
        self.assertEqual(width(tuple(range(400))), 0)
        self.assertEqual(width(tuple(range(400))[::-1]), 400)
        self.assertEqual(width(blocks(400, 8)), 8)
        self.assertEqual(open_entries(tuple(range(400))[::-1], 1), (0, 399))

    def test_what_is_no_cut(self):
        for value in (-1, 4, None, "1", 1.0, True, (1,), [1], Odd(), 10 ** 40):
            self.raises_at(Refused, 0, open_entries, (2, 0, 1), value)

    def test_wrong_reorderings(self):
        for value, at in WRONG_REORDERINGS:
            self.raises_at(InvalidReordering, at, open_entries, value, 0)
            self.raises_at(InvalidReordering, at, open_entries, value, None)
            self.raises_at(InvalidReordering, at, width, value)
            self.raises_at(InvalidReordering, at, walked_harm, NONE, value)


class WalkTest(Case):
    def check(self, machine, p, harmless):
        told = walked_harm(machine, p)
        if harmless:
            self.assertIsNone(told)
        else:
            self.is_all_tuples(told)
            self.assertTrue(brute.is_harm(machine, p, told))
            self.assertIs(is_harm(machine, p, told), True)

    def test_as_by_all_rows(self):
        random = Random(231)
        some = (*brute.small_machines(), *brute.near_machines(231, 60), *brute.random_machines(231, 30))
        for machine in some:
            for many in range(6 if machine.commands < 3 else 5):
                every = brute.reorderings(many)
                for p in random.sample(every, min(12, len(every))):
                    self.check(machine, p, brute.is_harmless(machine, p))

    def test_as_by_all_rows_at_more_places(self):
        random = Random(232)
        words = [(0, 1, 0, 0, 1, 1, 0), (0, 0, 1, 1, 0, 1, 0)]
        for machine in (brute.one_word(*words), Machine(2, brute.short_memory(3, 3)), brute.one_word((0, 1) * 4)):
            for many in (6, 7, 8):
                for _ in range(12):
                    p = tuple(random.sample(range(many), many))
                    self.check(machine, p, brute.is_harmless(machine, p))

    def test_up_to_nine_places_for_two_commands(self):
        random = Random(233)
        for many in (8, 9):
            for _ in range(8):
                p = tuple(random.sample(range(many), many))
                self.assertIsNone(walked_harm(SUMS[2], p))
                self.check(NONE, p, False)
            self.check(NONE, tuple(range(many))[::-1], False)

    def test_rare_harms(self):
        word = (0, 1, 1, 0, 1, 0, 0, 1, 1)
        machine = brute.one_word(word)
        for p in ((1, 0, 2, 3, 4, 5, 6, 7, 8), (0, 1, 2, 3, 8, 5, 6, 7, 4), (8, 7, 6, 5, 4, 3, 2, 1, 0)):
            self.check(machine, p, word == brute.moved(word, p))
        self.assertIsNone(walked_harm(machine, (0, 2, 1, 3, 4, 5, 6, 7, 8)))

    def test_40_places(self):
        random = Random(234)
        for commands, most in ((2, 8), (3, 6), (4, 4), (5, 4), (1, 40)):
            machine = next(brute.random_machines(commands, 1, commands=(commands,), states=(10,)))
            for _ in range(2):
                p = narrow(random, 40, most)
                self.check(machine, p, commands == 1)
                self.assertIsNone(walked_harm(SUMS[commands], p))
        self.assertIsNone(walked_harm(machine=SUMS[2], reordering=list(blocks(40, 8))))
        self.assertIsNone(walked_harm(NONE, tuple(range(40))))

    def test_refused(self):
        wide = tuple(range(10))[::-1]
        self.assertEqual(width(wide), 10)
        self.raises_at(Refused, 10, walked_harm, NONE, wide)
        self.raises_at(Refused, 10, walked_harm, SUMS[2], wide)
        self.raises_at(Refused, 40, walked_harm, machine=NONE, reordering=tuple(range(40))[::-1])
        for commands, most in ((3, 6), (4, 4), (5, 4)):
            self.assertIsNone(walked_harm(SUMS[commands], blocks(40, most)))
            more = tuple(range(most + 2))[::-1]
            self.assertEqual(width(more), most + 2)
            self.raises_at(Refused, most + 2, walked_harm, SUMS[commands], more)
        ten = Machine(10, [[0] * 10, [1] * 10])
        self.assertIsNone(walked_harm(ten, (1, 0, 3, 2)))
        self.raises_at(Refused, 4, walked_harm, ten, (2, 3, 0, 1))
        many = Machine(31, [[0] * 31])
        self.assertIsNone(walked_harm(many, (1, 0)))
        self.raises_at(Refused, 2, walked_harm, Machine(32, [[0] * 32]), (1, 0))

    def test_a_width_of_three_commands_that_is_just_not_refused(self):
        self.assertIsNone(walked_harm(SUMS[1], tuple(range(40))[::-1]))
        self.assertIsNone(walked_harm(SUMS[5], exchanged_pairs(40)))

    def test_no_numbers_are_needed(self):
        self.check(BEYOND, (1, 0, 2), False)

    def test_ends(self):
        self.assertIsNone(walked_harm(NONE, ()))
        self.assertIsNone(walked_harm(NONE, (0,)))
        self.assertIsNone(walked_harm(Machine(5, [(0,) * 5]), (1, 0, 3, 2)))
