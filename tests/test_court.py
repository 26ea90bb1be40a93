"""Points 14, 15 and 16: exchanges, the three numbers, papers."""

import unittest

from endsandround.court import court_paper, exchange_harm, is_court_paper, is_exchange_harm, may_exchange, numbers
from endsandround.errors import Refused
from endsandround.gaps import gap_pairs, rounds
from endsandround.layers import joined, settled_behind, settled_joined
from endsandround.machines import Machine, end_state
from tests import brute
from tests.checks import Case

LAST = Machine(2, [(0, 1), (0, 1)])
TURNS = Machine(2, [(1, 0), (0, 2), (2, 1)])
NONE = Machine(2, [(0, 1), (0, 0)])
BEYOND = brute.beside(*[brute.wheel(step) for step in (2, 3, 5, 7, 11, 13)])


class Odd:
    """Something else."""


class ExchangeTest(Case):
    def test_as_by_all_rows(self):
        found = {True: 0, False: 0}
        some = (*brute.near_machines(51, 50, states=(2, 3, 4)), *brute.random_machines(51, 20))
        for machine in some:
            for before in range(3):
                for step in (1, 2, 3):
                    for after in range(3 if machine.commands < 3 else 1):
                        told = may_exchange(machine, before, step, after)
                        self.assertIs(told, brute.may_exchange(machine, before, step, after))
                        found[told] += 1
        self.assertGreater(min(found.values()), 50)

    def test_as_by_the_gap_pairs(self):
        for machine in brute.near_machines(52, 30, commands=(2, 3)):
            for before, step, after in ((0, 1, 0), (1, 4, 2), (5, 6, 1), (10 ** 40, 7, 10 ** 40)):
                least = joined(machine, after)
                wanted = all(
                    least[machine.steps[s][c]] == least[machine.steps[t][a]]
                    for a in range(machine.commands)
                    for c in range(machine.commands)
                    for s, t in gap_pairs(machine, before, a, c, step - 1)
                )
                self.assertIs(may_exchange(machine, before, step, after), wanted)

    def test_great_counts_and_steps(self):
        self.assertIs(may_exchange(machine=TURNS, before=10 ** 50, step=5000, after=10 ** 50), True)
        self.assertIs(may_exchange(TURNS, 10 ** 50, 4999, 10 ** 50), False)
        self.assertIs(may_exchange(LAST, 0, 5000, 1), True)
        self.assertIs(may_exchange(LAST, 10 ** 50, 5000, 0), False)
        memory = Machine(2, brute.first_memory(8))
        self.assertIs(may_exchange(memory, 7, 1, 10 ** 50), False)
        self.assertIs(may_exchange(memory, 8, 5000, 0), True)

    def test_harms(self):
        for machine in (*brute.near_machines(53, 60), *brute.random_machines(53, 40)):
            for before in (0, 1, 2, 6):
                for step in (1, 2, 3, 8):
                    for after in (0, 1, 5):
                        self.check_harm(machine, before, step, after)

    def check_harm(self, machine, before, step, after):
        harm = exchange_harm(machine, before, step, after)
        if may_exchange(machine, before, step, after):
            self.assertIsNone(harm)
            return
        filling, state = harm
        self.is_all_tuples(harm)
        self.assertEqual(len(filling), before + step + 1 + after)
        changed = brute.swapped(filling, before, before + step)
        self.assertNotEqual(brute.run(machine, state, filling), brute.run(machine, state, changed))
        self.assertIs(is_exchange_harm(machine, before, step, after, harm), True)

    def test_harms_of_long_rows(self):
        for before, step, after in ((4998, 4999, 2), (9998, 1, 0), (0, 1, 9998), (0, 4999, 5000)):
            self.check_harm(TURNS, before, step, after)
        self.check_harm(LAST, 5000, 4999, 0)
        self.assertIsNone(exchange_harm(machine=TURNS, before=0, step=5000, after=4999))

    def test_is_exchange_harm_as_by_trying(self):
        for machine in brute.near_machines(54, 20, commands=(2,), states=(2, 3)):
            for row in brute.rows(2, 4):
                for state in range(machine.states):
                    wanted = brute.run(machine, state, row) != brute.run(machine, state, brute.swapped(row, 1, 3))
                    self.assertIs(is_exchange_harm(machine, 1, 2, 0, (row, state)), wanted)

    def test_what_is_no_harm(self):
        good = exchange_harm(NONE, 1, 1, 1)
        filling, state = good
        self.assertIs(is_exchange_harm(machine=NONE, before=1, step=1, after=1, value=good), True)
        wrong = (
            None, 3, "harm", (), good[:1], [filling, state], (list(filling), state), (*good, 0), (filling, -1),
            (filling, 2), (filling, True), (filling, None), (filling, str(state)), (filling[1:], state),
            (filling + (0,), state), ((2,) + filling[1:], state), ((None,) * 4, state), (state, filling), (None, state),
            ((0, 0, 0, 0), state), (Odd(), Odd()), Odd(), {0: filling, 1: state},
            (tuple(bool(command) for command in filling), state),
            (tuple(float(command) for command in filling), state),
        )
        for value in wrong:
            self.assertIs(is_exchange_harm(NONE, 1, 1, 1, value), False)
        self.assertIs(is_exchange_harm(NONE, 10 ** 30, 1, 1, good), False)
        self.assertIs(is_exchange_harm(NONE, 0, 2, 1, ((0, 0, 0, 0), 0)), False)

    def test_exchanges_that_differ_only_for_another_state(self):
        machine = Machine(2, [(0, 0), (1, 2), (2, 1), (0, 1)])
        filling, state = exchange_harm(machine, 0, 1, 0)
        self.assertEqual(state, 3)


class NumbersTest(Case):
    def test_the_examples_of_the_document(self):
        told = [numbers(Machine(2, steps)) for steps in ([(0, 1), (0, 1)], [(1, 0), (0, 2), (2, 1)], [(0, 1), (0, 0)])]
        self.assertEqual(told, [(0, 1, 1), (0, 0, 2), None])

    def test_another_example_of_the_document(self):
        self.assertEqual(numbers(machine=Machine(2, [(1, 2), (2, 3), (2, 2), (2, 2)])), (0, 0, 1))

    def test_one_command_or_one_state(self):
        self.assertEqual(numbers(Machine(1, [(1,), (2,), (1,), (0,)])), (0, 0, 1))
        self.assertEqual(numbers(Machine(1, [(0,)])), (0, 0, 1))
        self.assertEqual(numbers(Machine(5, [(0,) * 5])), (0, 0, 1))

    def test_parts(self):
        for many in range(1, 6):
            self.assertEqual(numbers(Machine(2, brute.first_memory(many))), (many, 0, 1))
            self.assertEqual(numbers(Machine(2, brute.last_memory(many))), (0, many, 1))
            self.assertEqual(numbers(Machine(2, brute.wheel(many))), (0, 0, many))
        machine = brute.beside(brute.first_memory(3), brute.last_memory(2), brute.wheel(4), brute.wheel(6))
        self.assertEqual(numbers(machine), (3, 2, 12))

    def test_numbers_below_the_counts_from_which_all_is_settled(self):
        machine = brute.beside(brute.first_memory(2), brute.last_memory(1), brute.wheel(3), brute.chain(6))
        self.assertEqual((settled_behind(machine), settled_joined(machine)), (5, 5))
        self.assertEqual(numbers(machine), (2, 1, 3))

    def test_harmless_ones_are_allowed_and_long_allowed_ones_harmless(self):
        met = {}
        for machine in (*brute.small_machines(), *brute.near_machines(55, 30, states=(3, 4))):
            triple = numbers(machine)
            met[triple] = True
            enough = 0
            if triple is not None:
                enough = settled_behind(machine) + settled_joined(machine) + triple[2] + 1
            for many in range(6 if machine.commands < 3 else 5):
                for p in brute.reorderings(many):
                    allowed = brute.is_allowed(triple, p)
                    harmless = brute.is_harmless(machine, p)
                    if many >= enough:
                        self.assertEqual(harmless, allowed, (machine.steps, p))
                    elif harmless:
                        self.assertTrue(allowed, (machine.steps, p))
        self.assertGreater(len(met), 6)
        self.assertIn(None, met)

    def test_each_number_is_the_least(self):
        for machine in (*brute.near_machines(56, 150), *brute.random_machines(56, 50)):
            u, v = settled_behind(machine), settled_joined(machine)
            period = rounds(machine)[1]
            triple = numbers(machine)
            self.assertEqual(triple is not None, may_exchange(machine, u, period, v))
            if triple is not None:
                first, last, step = triple
                self.assertEqual(period % step, 0)
                for d in range(1, 2 * period + 1):
                    self.assertEqual(may_exchange(machine, u, d, v), d % step == 0)
                for x in range(u + 1):
                    self.assertEqual(may_exchange(machine, x, step, v), x >= first)
                for y in range(v + 1):
                    self.assertEqual(may_exchange(machine, u, step, y), y >= last)

    def test_refused(self):
        self.raises_at(Refused, 5000, numbers, BEYOND)

    def test_the_limit(self):
        parts = (brute.wheel(2), brute.wheel(3), brute.wheel(49), brute.wheel(17))
        self.assertEqual(numbers(brute.beside(*parts, brute.last_memory(2))), (0, 2, 4998))
        self.raises_at(Refused, 5000, numbers, brute.beside(*parts, brute.last_memory(3)))


class PaperTest(Case):
    def check_paper(self, machine):
        paper = court_paper(machine)
        self.is_all_tuples(paper)
        self.assertIs(is_court_paper(machine, paper), True)
        u, v = settled_behind(machine), settled_joined(machine)
        triple = numbers(machine)
        if triple is None:
            kind, d, harm = paper
            self.assertEqual(kind, "none")
            self.assertEqual(d % rounds(machine)[1], 0)
            self.assertTrue(1 <= d <= 5000)
            self.assertTrue(is_exchange_harm(machine, u, d, v, harm))
            return paper
        first, last, step = triple
        contexts = [(first - 1, step, v)] if first else []
        contexts += [(u, step, last - 1)] if last else []
        primes = [q for q in range(2, step + 1) if step % q == 0 and all(q % r for r in range(2, q))]
        contexts += [(u, step // q, v) for q in primes]
        self.assertEqual(paper[:2], ("numbers", triple))
        self.assertEqual(len(paper[2]), len(contexts))
        for context, harm in zip(contexts, paper[2]):
            self.assertTrue(is_exchange_harm(machine, *context, harm))
        return paper

    def test_papers(self):
        kinds = {}
        some = (*brute.small_machines(), *brute.near_machines(57, 60), *brute.random_machines(57, 30))
        for machine in some:
            paper = self.check_paper(machine)
            kinds[paper[0]] = True
        self.assertEqual(sorted(kinds), ["none", "numbers"])
        self.check_paper(brute.beside(brute.first_memory(2), brute.last_memory(3), brute.wheel(4), brute.wheel(3)))
        self.check_paper(Machine(1, [(1,), (0,)]))
        self.assertEqual(court_paper(Machine(2, [(0, 0)])), ("numbers", (0, 0, 1), ()))

    def test_named_arguments(self):
        self.assertIs(is_court_paper(machine=TURNS, value=court_paper(machine=TURNS)), True)

    def test_a_none_paper_may_tell_any_multiple(self):
        u, v = settled_behind(NONE), settled_joined(NONE)
        period = rounds(NONE)[1]
        for d in (period, 2 * period, 5000 // period * period):
            self.assertIs(is_court_paper(NONE, ("none", d, exchange_harm(NONE, u, d, v))), True)

    def test_wrong_none_papers(self):
        kind, d, harm = court_paper(NONE)
        wrong = [
            ("none", 0, harm), ("none", -d, harm), ("none", None, harm), ("none", str(d), harm), ("none", d, None),
            ("none", d, list(harm)), ("none", d, (list(harm[0]), harm[1])), ("none", d), ["none", d, harm],
            ("none", d, harm, 0), ("None", d, harm), ("numbers", d, harm), (None, d, harm), ("none", d + 0.0, harm),
            ("none", True, harm), ("none", d, (harm,)), None, 0, "none", (), Odd(), ("none", Odd(), harm),
        ]
        for value in wrong:
            self.assertIs(is_court_paper(NONE, value), False, value)
        u, v = settled_behind(NONE), settled_joined(NONE)
        self.assertIs(is_court_paper(NONE, ("none", 5001, exchange_harm(NONE, u, 5001, v))), False)

    def test_a_distance_that_is_no_multiple(self):
        machine = Machine(2, [(1, 1), (0, 2), (2, 0), (3, 4), (4, 4)])
        for machine in (machine, *brute.near_machines(58, 200)):
            period = rounds(machine)[1]
            if numbers(machine) is None and period > 1:
                u, v = settled_behind(machine), settled_joined(machine)
                harm = exchange_harm(machine, u, period + 1, v)
                self.assertIs(is_exchange_harm(machine, u, period + 1, v, harm), True)
                self.assertIs(is_court_paper(machine, ("none", period + 1, harm)), False)
                return
        self.fail("no machine with a period was tried")

    def test_wrong_numbers_papers(self):
        machine = brute.beside(brute.first_memory(2), brute.last_memory(2), brute.wheel(2))
        paper = court_paper(machine)
        kind, triple, harms = paper
        self.assertEqual(triple, (2, 2, 2))
        self.assertEqual(len(harms), 3)
        for value in (
            list(paper), paper[:2], (*paper, 0), ("none", triple, harms), ("number", triple, harms),
            (kind, list(triple), harms), (kind, triple, list(harms)), (kind, triple, harms[:2]),
            (kind, triple, (*harms, harms[0])), (kind, triple, harms[::-1]), (kind, None, harms),
            (kind, triple, None), (kind, triple, (harms[0], harms[1], None)), (kind, triple[:2], harms),
            (kind, triple, (list(harms[0]), *harms[1:])), (kind, (2, 2, 2, 2), harms), (kind, Odd(), harms),
        ):
            self.assertIs(is_court_paper(machine, value), False, value)
        for wrong in (
            (1, 2, 2), (2, 1, 2), (2, 2, 1), (3, 2, 2), (2, 3, 2), (2, 2, 4), (2, 2, 0), (2, 2, -2), (-1, 2, 2),
            (2, 2, None), ("2", 2, 2), (2.0, 2, 2), (2, 2, 5002), (10 ** 40, 2, 2), (2, 10 ** 40, 2), (2, 2, 10 ** 40),
        ):
            self.assertIs(is_court_paper(machine, (kind, wrong, harms)), False, wrong)

    def test_a_lesser_triple_with_the_harms_that_it_wants(self):
        machine = brute.beside(brute.first_memory(2), brute.last_memory(2), brute.wheel(2))
        u, v = settled_behind(machine), settled_joined(machine)
        for first, last, step in ((2, 2, 2), (1, 2, 2), (2, 1, 2), (2, 2, 1), (1, 1, 1), (1, 1, 2)):
            harms = [exchange_harm(machine, first - 1, step, v), exchange_harm(machine, u, step, last - 1)]
            harms += [exchange_harm(machine, u, 1, v)] if step == 2 else []
            self.assertNotIn(None, harms)
            told = is_court_paper(machine, ("numbers", (first, last, step), tuple(harms)))
            self.assertIs(told, (first, last, step) == (2, 2, 2))

    def test_a_step_is_from_1_to_5000(self):
        machine = Machine(2, [(0, 0)])
        for step in (0, -1, -2, 5001, 10 ** 40):
            self.assertIs(is_court_paper(machine, ("numbers", (0, 0, step), ())), False)

    def test_truth_values_are_no_numbers(self):
        self.assertIs(is_court_paper(Machine(2, [(0, 0)]), ("numbers", (0, 0, 1), ())), True)
        for triple in ((False, 0, 1), (0, False, 1), (0, 0, True)):
            self.assertIs(is_court_paper(Machine(2, [(0, 0)]), ("numbers", triple, ())), False)

    def test_a_paper_of_multiples_does_not_hold(self):
        u, v = settled_behind(TURNS), settled_joined(TURNS)
        harm = exchange_harm(TURNS, u, 1, v)
        self.assertIs(is_court_paper(TURNS, ("numbers", (0, 0, 2), (harm,))), True)
        self.assertIs(is_court_paper(TURNS, ("numbers", (0, 0, 4), (harm,))), False)
        self.assertIs(is_court_paper(TURNS, ("numbers", (0, 0, 1), ())), False)

    def test_refused_whatever_the_paper(self):
        self.raises_at(Refused, 5000, court_paper, BEYOND)
        self.raises_at(Refused, 5000, is_court_paper, BEYOND, ("numbers", (0, 0, 1), ()))
        self.raises_at(Refused, 5000, is_court_paper, BEYOND, None)


if __name__ == "__main__":
    unittest.main()
