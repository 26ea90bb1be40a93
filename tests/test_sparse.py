"""Point 30: sparse harms."""

from random import Random

from endsandround.errors import InvalidReordering, NotReversible
from endsandround.judge import harm
from endsandround.machines import Machine
from endsandround.reorderings import exchange
from endsandround.reversible import clash, free_step
from endsandround.sparse import is_sparse_harm, sparse_harm
from tests import brute
from tests.checks import WRONG_REORDERINGS, Case

TURNS = Machine(2, [(1, 0), (0, 2), (2, 1)])
SHUFFLES = brute.group_machine((1, 2, 0, 3), (1, 0, 2, 3), (0, 1, 3, 2))
NOT = Machine(2, [(1, 0), (0, 0)])


class Odd:
    """Something else."""


def far_clash():
    """A reversible machine with a free step of 3 whose first clash has a distance that is no multiple of 3."""
    for machine in brute.reversible_machines(301, 3000, commands=(2, 3), states=(5, 6, 7)):
        found = clash(machine, 0)
        if found is not None and found[0] > 0 and free_step(machine, 0) > 2:
            return machine
    return None


class SparseTest(Case):
    def check(self, machine, base, p):
        told = sparse_harm(machine, base, p)
        if told is None:
            self.assertIsNone(harm(machine, p))
            return
        self.is_all_tuples(told)
        filling, state = told
        self.assertTrue(brute.is_harm(machine, tuple(p), told))
        self.assertLessEqual(len([c for c in filling if c != base]), 2)
        self.assertIs(is_sparse_harm(machine, base, p, told), True)

    def test_short_reorderings(self):
        for machine in brute.reversible_machines(302, 25, commands=(2, 3), states=(2, 3, 4, 5)):
            for base in range(machine.commands):
                for many in range(5):
                    for p in brute.reorderings(many):
                        self.check(machine, base, p)
                        if machine.commands == 2:
                            harmless = brute.is_harmless(machine, p)
                            self.assertEqual(sparse_harm(machine, base, p) is None, harmless)

    def test_moves_by_multiples_of_the_free_step(self):
        random = Random(303)
        clashes = {}
        for machine in (*brute.reversible_machines(303, 150, states=(4, 5, 6)), far_clash()):
            base = random.randrange(machine.commands)
            step = free_step(machine, base)
            for many in (step + 1, 2 * step, 3 * step + 1):
                places = list(range(many))
                for start in range(step):
                    part = places[start::step]
                    random.shuffle(part)
                    places[start::step] = part
                self.check(machine, base, places)
                at = random.randrange(many - step)
                self.check(machine, base, exchange(many, at, at + step))
            found = clash(machine, base)
            clashes[found and found[0]] = True
        self.assertGreater(len(clashes), 2)

    def test_a_clash_far_apart(self):
        machine = far_clash()
        self.assertIsNotNone(machine)
        step = free_step(machine, 0)
        for many in range(step + 1, 4 * step):
            for at in range(many - step):
                told = sparse_harm(machine, 0, exchange(many, at, at + step))
                self.assertIsNotNone(told)
                self.assertEqual(len([c for c in told[0] if c != 0]), 2)
                self.check(machine, 0, exchange(many, at, at + step))

    def test_a_clash_of_two_commands_that_do_not_clash_the_other_way(self):
        for steps, found, step in (
            ([(3, 3, 2), (2, 2, 3), (4, 4, 4), (1, 0, 1), (0, 1, 0)], (1, 2, 1), 5),
            ([(2, 5, 2), (5, 2, 5), (0, 0, 1), (1, 1, 0), (3, 3, 3), (4, 4, 4)], (1, 1, 2), 4),
        ):
            machine = Machine(3, steps)
            self.assertEqual((clash(machine, 0), free_step(machine, 0)), (found, step))
            for many in range(step + 1, 3 * step + 2):
                for at in range(many - step):
                    self.check(machine, 0, exchange(many, at, at + step))

    def test_400_places(self):
        random = Random(304)
        machines = [TURNS, SHUFFLES, far_clash(), Machine(2, brute.wheel(5))]
        machines += list(brute.reversible_machines(304, 5, commands=(5,), states=(10,)))
        turned = tuple((at + 60) % 400 for at in range(400))
        for machine in machines:
            for p in (tuple(range(400))[::-1], turned, exchange(400, 1, 399), exchange(400, 3, 33), tuple(range(400)),
                      tuple(random.sample(range(400), 400))):
                self.check(machine, machine.commands - 1, p)

    def test_harmless_ones(self):
        self.assertIsNone(sparse_harm(machine=TURNS, base=0, reordering=[2, 1, 0]))
        self.assertIsNone(sparse_harm(SHUFFLES, 0, tuple(range(400))))
        self.assertIsNone(sparse_harm(SHUFFLES, 1, ()))
        self.assertIsNone(sparse_harm(Machine(1, [(1,), (0,)]), 0, (2, 0, 1)))
        self.assertIsNone(sparse_harm(Machine(5, [(0,) * 5]), 3, (2, 0, 1)))

    def test_is_sparse_harm_as_by_trying(self):
        p = (3, 1, 0, 2)
        found = {True: 0, False: 0}
        for base in range(3):
            for row in brute.rows(3, 4):
                for state in range(4):
                    wanted = brute.is_harm(SHUFFLES, p, (row, state)) and len([c for c in row if c != base]) <= 2
                    self.assertIs(is_sparse_harm(SHUFFLES, base, p, (row, state)), wanted)
                    found[wanted] += 1
        self.assertGreater(min(found.values()), 20)

    def test_what_is_no_sparse_harm(self):
        p = (1, 0, 2)
        good = filling, state = sparse_harm(SHUFFLES, 0, p)
        self.assertIs(is_sparse_harm(machine=SHUFFLES, base=0, reordering=p, value=good), True)
        for value in (None, 3, (), Odd(), list(good), (filling,), (*good, 0), (list(filling), state), (filling, -1),
                      (filling, 4), (filling, None), (filling[1:], state), ((3, *filling[1:]), state),
                      ((0, 0, 0), state), (None, state), (Odd(), Odd())):
            self.assertIs(is_sparse_harm(SHUFFLES, 0, p, value), False, value)

    def test_errors(self):
        for value, at in WRONG_REORDERINGS:
            self.raises_at(InvalidReordering, at, is_sparse_harm, TURNS, 0, value, None)
            self.raises_at(InvalidReordering, at, sparse_harm, TURNS, 0, value)
            self.raises_at(NotReversible, 1, is_sparse_harm, NOT, 0, value, None)
            self.raises_at(NotReversible, 1, sparse_harm, NOT, 0, value)
        self.raises_at(NotReversible, 1, sparse_harm, NOT, 0, (0, 1))

    def test_lists_stay_as_they_are(self):
        p = [1, 0, 2]
        told = sparse_harm(SHUFFLES, 0, p)
        self.assertEqual(p, [1, 0, 2])
        p[0], p[1] = 0, 1
        self.assertIs(is_sparse_harm(SHUFFLES, 0, (1, 0, 2), told), True)
