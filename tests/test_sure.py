"""Point 42: sure reorderings, refutations."""

from random import Random

from endsandround.claims import Claims, broken, shown_numbers
from endsandround.errors import InvalidReordering, Refused
from endsandround.judge import is_harm
from endsandround.machines import Machine
from endsandround.rowlots import lot_machine, row_lot
from endsandround.sure import is_refutation, is_sure, refutation
from endsandround.ties import full_from, is_full
from tests import brute
from tests.checks import WRONG_REORDERINGS, Case, Odd
from tests.test_claims import BEYOND, some_claims

PAIRS = Claims(2, [(2, 1, 0)])
EACH = Claims(2, [(1, 0)])


class SureTest(Case):
    def test_as_by_all_rows_and_lots(self):
        random = Random(421)
        met = {True: 0, False: 0}
        for _ in range(150):
            claims = some_claims(random, places=4)
            for length in range(6 if claims.commands == 2 else 5):
                every = brute.reorderings(length)
                for p in random.sample(every, min(4, len(every))):
                    wanted = all(
                        brute.moved(row, p) in row_lot(claims, row) for row in brute.rows(claims.commands, length)
                    )
                    self.assertIs(is_sure(claims, p), wanted)
                    met[wanted] += 1
                    if not brute.is_allowed(shown_numbers(claims), p):
                        self.assertFalse(wanted)
                    elif is_full(claims, length):
                        self.assertTrue(wanted)
        self.assertGreater(min(met.values()), 100)

    def test_what_is_sure_is_harmless_for_all_that_keep_the_claims(self):
        random = Random(422)
        met = 0
        for machine in (*brute.near_machines(422, 200), *brute.small_machines()):
            if machine.commands == 1:
                continue
            claims = some_claims(random, commands=(machine.commands,), most=1, places=3)
            if broken(claims, machine) is not None:
                continue
            for length in range(5):
                p = tuple(random.sample(range(length), length))
                if is_sure(claims, p):
                    self.assertTrue(brute.is_harmless(machine, p))
                    met += p != tuple(range(length))
        self.assertGreater(met, 20)

    def test_what_is_not_sure_is_harmful_for_some(self):
        random = Random(423)
        met = 0
        for _ in range(80):
            claims = some_claims(random, commands=(2,), places=4)
            for length in (3, 4, 5):
                p = tuple(random.sample(range(length), length))
                if not is_sure(claims, p):
                    machine = lot_machine(claims, length)
                    self.assertIsNone(broken(claims, machine))
                    self.assertFalse(brute.is_harmless(machine, p))
                    met += brute.is_allowed(shown_numbers(claims), p)
        self.assertGreater(met, 5)

    def test_the_example(self):
        claims = Claims(2, [(2, 1, 0), (0, 3, 2, 1)])
        self.assertEqual(shown_numbers(claims), (0, 0, 2))
        self.assertEqual(full_from(Claims(2, [(2, 1, 0)])), 6)
        self.assertIs(is_sure(Claims(2, [(2, 1, 0)]), (0, 3, 2, 1)), True)

    def test_told(self):
        self.assertIs(is_sure(claims=EACH, reordering=[2, 0, 1]), True)
        self.assertIs(is_sure(PAIRS, (1, 0)), False)
        # Two rows of three entries are turned into each other if they have the same two commands equally often.
        self.assertIs(is_sure(Claims(2, [(1, 2, 0)]), (1, 0, 2)), True)
        self.assertIs(is_sure(Claims(3, [(1, 2, 0)]), (1, 0, 2)), False)
        self.assertIs(is_sure(Claims(2, []), (1, 0)), False)

    def test_100_places(self):
        turned = tuple((at + 50) % 100 for at in range(100))
        self.assertIs(is_sure(PAIRS, turned), True)
        self.assertIs(is_sure(PAIRS, turned[1:] + turned[:1]), False)
        self.assertIs(is_sure(Claims(2, []), tuple(range(100))), True)
        self.assertIs(is_sure(Claims(2, []), turned), False)

    def test_refused(self):
        # Full lengths are never refused, nor is what is idle, or not allowed.
        claims = Claims(2, [(7, 1, 2, 3, 4, 5, 6, 0)])
        self.assertEqual(full_from(claims), 21)
        for many in range(9, 21):
            p = brute.swapped(tuple(range(many)), 0, 7)
            self.raises_at(Refused, many, is_sure, claims, p)
            self.assertIs(is_sure(claims, tuple(range(many))), True)
            self.assertIs(is_sure(claims, brute.swapped(tuple(range(many)), 0, 6)), False)
        self.assertIs(is_sure(claims, brute.swapped(tuple(range(8)), 0, 7)), True)
        self.assertIs(is_sure(claims, brute.swapped(tuple(range(21)), 0, 14)), True)
        # 3 ** 5 = 243 rows are not refused, 3 ** 6 are, as are 4 ** 5; 4 ** 4 and 5 ** 3 are not.
        for commands, most in ((3, 5), (4, 4), (5, 3)):
            far = Claims(commands, [(2, 1, 0), (4, 1, 2, 3, 0, 5, 6, 7)])
            self.assertIs(is_sure(far, brute.swapped(tuple(range(most)), 0, 2)), True)
            self.assertFalse(is_full(far, most + 1))
            self.raises_at(Refused, most + 1, is_sure, far, brute.swapped(tuple(range(most + 1)), 0, 2))

    def test_wrong_reorderings(self):
        for value, at in WRONG_REORDERINGS:
            self.raises_at(InvalidReordering, at, is_sure, PAIRS, value)
            self.raises_at(InvalidReordering, at, refutation, PAIRS, value)
            self.raises_at(InvalidReordering, at, is_refutation, PAIRS, value, None)


class RefutationTest(Case):
    def check(self, claims, p):
        told = refutation(claims, p)
        machine, filling, state = told
        self.assertIsInstance(told, tuple)
        self.is_all_tuples((filling, state))
        self.assertEqual(machine.commands, claims.commands)
        self.assertIsNone(broken(claims, machine))
        self.assertTrue(brute.is_harm(machine, tuple(p), (filling, state)))
        self.assertIs(is_harm(machine, p, (filling, state)), True)
        self.assertIs(is_refutation(claims, p, told), True)

    def test_all_that_is_not_allowed_has_one(self):
        random = Random(424)
        met = set()
        for _ in range(150):
            claims = some_claims(random, commands=(2, 3, 5), places=8)
            triple = shown_numbers(claims)
            for length in (0, 1, 2, 3, 5, 8, 20, 100):
                p = tuple(random.sample(range(length), length))
                if random.random() < 0.5 and length > 1:
                    p = brute.swapped(tuple(range(length)), *random.sample(range(length), 2))
                if brute.is_allowed(triple, p):
                    self.raises_at(Refused, 0, refutation, claims, p)
                else:
                    self.check(claims, p)
                    met.add(triple)
        self.assertGreater(len(met), 10)

    def test_each_end_and_step(self):
        for first in range(4):
            for last in range(3):
                for step in (1, 2, 3):
                    told = brute.swapped(tuple(range(first + step + 1 + last)), first, first + step)
                    claims = Claims(4, [told])
                    self.assertEqual(shown_numbers(claims), (first, last, step))
                    for many in range(2, 11):
                        for i in range(many):
                            for j in range(i):
                                p = brute.swapped(tuple(range(many)), i, j)
                                if not brute.is_allowed((first, last, step), p):
                                    self.check(claims, p)

    def test_each_step(self):
        random = Random(425)
        for step in range(2, 8):
            claims = Claims(3, [brute.swapped(tuple(range(step + 1)), 0, step)])
            self.assertEqual(shown_numbers(claims), (0, 0, step))
            for length in (5, 10, 20, 50):
                for _ in range(5):
                    p = tuple(random.sample(range(length), length))
                    if not brute.is_allowed((0, 0, step), p):
                        self.check(claims, p)

    def test_told(self):
        told = refutation(claims=PAIRS, reordering=[1, 0])
        self.assertIs(is_refutation(claims=PAIRS, reordering=[1, 0], value=told), True)
        self.raises_at(Refused, 0, refutation, PAIRS, (0, 1))
        self.raises_at(Refused, 0, refutation, PAIRS, (2, 1, 0))
        self.check(Claims(2, []), (1, 0))
        self.check(Claims(5, [()]), (0, 1, 3, 2))

    def test_of_what_is_allowed_but_not_sure(self):
        claims = Claims(3, [(1, 2, 0)])
        machine = lot_machine(claims, 3)
        p = (1, 0, 2)
        shown = [
            (machine, row, state) for row in brute.rows(3, 3) for state in range(machine.states)
            if brute.is_harm(machine, p, (row, state))
        ]
        self.raises_at(Refused, 0, refutation, claims, p)
        self.assertIs(is_sure(claims, p), False)
        self.assertEqual(len(shown), 6)
        for value in shown:
            self.assertIs(is_refutation(claims, p, value), True)

    def test_what_is_none(self):
        p = (1, 0)
        machine, filling, state = good = refutation(PAIRS, p)
        wrong = (
            None, 3, "it", (), Odd(), list(good), good[:2], (*good, 0), (machine, list(filling), state),
            (machine, filling, -1), (machine, filling, machine.states), (machine, filling, None),
            (machine, filling, bool(state)), (machine.steps, filling, state), (Odd(), filling, state),
            (machine, (0, 0), state), (machine, (*filling, 0), state), (machine, Odd(), Odd()),
            (Machine(3, [(*entry, 0) for entry in machine.steps]), filling, state),
            (Machine(2, [(0, 1), (0, 0)]), (0, 1), 0), {0: machine, 1: filling, 2: state},
        )
        for value in wrong:
            self.assertIs(is_refutation(PAIRS, p, value), False, value)
        # A harm for a machine for which a told reordering is harmful, too.
        self.assertIs(is_harm(Machine(2, [(0, 1), (0, 0)]), p, ((0, 1), 0)), True)

    def test_refused_only_for_a_machine_and_a_harm(self):
        harm = ((0, 1), 0)
        self.assertIs(is_harm(BEYOND, (1, 0), harm), True)
        self.raises_at(Refused, 5000, is_refutation, PAIRS, (1, 0), (BEYOND, *harm))
        self.assertIs(is_refutation(PAIRS, (1, 0), (BEYOND, (0, 0), 0)), False)
        self.assertIs(is_refutation(Claims(3, [(2, 1, 0)]), (1, 0), (BEYOND, *harm)), False)
        self.assertIs(is_refutation(Claims(2, []), (1, 0), (BEYOND, *harm)), True)
        machine = Machine(3, [(*entry, entry[0]) for entry in brute.short_memory(4, 5)])
        claims = Claims(3, [tuple(range(8))[::-1]])
        shown = [
            (row, 0) for row in brute.rows(3, 5) if brute.is_harm(machine, (0, 1, 2, 4, 3), (row, 0))
        ]
        self.raises_at(Refused, 8, is_refutation, claims, (0, 1, 2, 4, 3), (machine, *shown[0]))
        self.assertIs(is_refutation(claims, (0, 1, 2, 4, 3), (machine, (0,) * 5, 0)), False)

    def test_nothing_is_changed(self):
        p = [1, 0]
        refutation(PAIRS, p)
        is_sure(PAIRS, p)
        self.assertEqual(p, [1, 0])
