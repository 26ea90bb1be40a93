"""Point 62: papers that show the numbers of omissions."""

from itertools import product

from endsandround.layers import settled_behind, settled_joined
from endsandround.machines import Machine
from endsandround.omissioncourt import may_omit, omission_numbers
from endsandround.omissionpapers import is_omission_paper, omission_paper
from endsandround.omissions import is_omission_harm
from endsandround.slips import is_slip, never_counts
from tests import brute
from tests.checks import Case, Odd

BOTH = brute.beside(brute.first_memory(2), brute.last_memory(1), [((at + 1) % 6,) * 2 for at in range(6)])


def primes_of(number):
    return [q for q in range(2, number + 1) if number % q == 0 and all(q % d for d in range(2, q))]


class PaperTest(Case):
    def check(self, machine):
        paper = omission_paper(machine)
        self.is_all_tuples(paper)
        self.assertIs(is_omission_paper(machine, paper), True)
        u, v = settled_behind(machine), settled_joined(machine)
        triple = omission_numbers(machine)
        if triple is None:
            self.assertEqual(len(paper), 2)
            self.assertEqual(paper[0], "none")
            self.assertTrue(is_slip(machine, u, v, paper[1]))
            return paper
        self.assertEqual(paper[:2], ("numbers", triple))
        first, last, block = triple
        harms = list(paper[2])
        if first:
            self.assertTrue(is_slip(machine, first - 1, v, harms.pop(0)))
        if last:
            self.assertTrue(is_slip(machine, u, last - 1, harms.pop(0)))
        for q in primes_of(block):
            omission = (0,) * u + (1,) * (block // q) + (0,) * v
            self.assertTrue(is_omission_harm(machine, omission, harms.pop(0)))
        self.assertEqual(harms, [])
        return paper

    def test_papers(self):
        for machine in (*brute.small_machines(), *brute.random_machines(621, 40), *brute.counting_machines(622, 100)):
            self.check(machine)
        self.check(BOTH)
        for first, last in ((9, 9), (3, 0), (0, 7)):
            parts = [brute.first_memory(first)] * (first > 0) + [brute.last_memory(last)] * (last > 0)
            self.check(brute.beside(*parts))

    def test_great_blocks(self):
        steps = []
        for size in (7, 11, 13, 4):
            offset = len(steps)
            steps += [[offset + (at + 1) % size] * 2 for at in range(size)]
        machine = Machine(2, steps)
        self.assertEqual(omission_numbers(machine), (0, 0, 4004))
        self.check(machine)

    def test_a_paper_shows_the_numbers(self):
        for machine in (*brute.counting_machines(623, 40), BOTH):
            truth = omission_numbers(machine)
            paper = omission_paper(machine)
            shown = paper[2] if truth is not None else ()
            for triple in product(range(4), range(3), range(7)):
                for harms in (shown, (), shown[:1], shown[1:]):
                    wanted = triple == truth and harms == shown
                    self.assertIs(is_omission_paper(machine, ("numbers", triple, harms)), wanted)

    def test_told(self):
        self.assertIs(is_omission_paper(machine=BOTH, value=omission_paper(machine=BOTH)), True)

    def test_no_papers_with_numbers(self):
        kind, triple, harms = omission_paper(BOTH)
        self.assertEqual(triple, (2, 1, 6))
        self.assertEqual(len(harms), 4)
        self.assertIs(is_omission_paper(BOTH, (kind, triple, harms)), True)
        for value in (
            None, 3, "numbers", (), (kind,), (kind, triple), [kind, triple, harms], (kind, list(triple), harms),
            (kind, triple, list(harms)), (kind, triple, harms, None), (kind, triple, harms[:3]),
            (kind, triple, harms + harms[:1]), (kind, triple, (harms[1], harms[0], *harms[2:])),
            (kind, triple, (*harms[:2], harms[3], harms[2])), ("none", triple, harms), ("number", triple, harms),
            (None, triple, harms), (Odd(), triple, harms), (kind, Odd(), harms), (kind, triple, Odd()),
            (kind, (2, 1), harms), (kind, (2, 1, 6, 0), harms), (kind, (2, 1, 0), harms), (kind, (2, 1, -6), harms),
            (kind, (2, 1, 12), harms), (kind, (2, 1, 6006), harms), (kind, (2, True, 6), harms),
            (kind, (2, None, 6), harms), (kind, (2, 1, "6"), harms), (kind, (-1, 1, 6), harms),
            (kind, (2, 1, 6), (*harms[:3], None)), (kind, (2, 1, 6), (Odd(), *harms[1:])), (kind, (2, 1, 3), harms[:3]),
            (kind, (10 ** 30, 1, 6), harms), (kind, (2, 10 ** 30, 6), harms), (kind, (2, 1, 10 ** 30), harms),
            (kind, (10001, 1, 6), harms), (kind, None, harms), ("none", harms[0]), ("none", None), ("none", Odd()),
        ):
            self.assertIs(is_omission_paper(BOTH, value), False)

    def test_no_papers_without_numbers(self):
        machine = Machine(2, [(0, 1), (1, 0)])
        kind, shown = omission_paper(machine)
        self.assertEqual(kind, "none")
        self.assertIs(is_omission_paper(machine, (kind, shown)), True)
        for value in (None, (kind,), [kind, shown], (kind, list(shown)), (kind, shown, ()), ("numbers", shown),
                      (Odd(), shown), (kind, None), (kind, shown[:2]), (kind, (shown[0], shown[0][0], shown[2])),
                      ("numbers", (0, 0, 1), ()), ("numbers", (0, 0, 2), (shown,)), (shown, kind)):
            self.assertIs(is_omission_paper(machine, value), False)

    def test_numbers_of_papers_hold(self):
        for machine in brute.counting_machines(624, 60):
            paper = omission_paper(machine)
            if paper[0] == "numbers":
                first, last, block = paper[1]
                u, v = settled_behind(machine), settled_joined(machine)
                self.assertTrue(never_counts(machine, first, v) and never_counts(machine, u, last))
                self.assertTrue(may_omit(machine, u, block, v))
