"""Points 43 and 44: findings, which triples agree, the widest one, clashes."""

from random import Random

from endsandround.errors import InvalidReordering, InvalidTriple
from endsandround.findings import agrees, checked_findings, clash, is_clash, widest
from endsandround.reorderings import exchange
from tests import brute
from tests.checks import WRONG_REORDERINGS, WRONG_TRIPLES, Case, Odd

ALL = [None] + [(first, last, step) for first in range(7) for last in range(7) for step in range(1, 7)]


def framed(first, last, step):
    return exchange(first + step + 1 + last, first, first + step)


def some_findings(random, most=5, places=6, harmless=0.5):
    found = []
    for _ in range(random.randrange(most + 1)):
        many = random.randrange(places + 1)
        p = tuple(range(many))
        if many > 1 and random.random() < 0.85:
            p = brute.swapped(p, *random.sample(range(many), 2))
        if random.random() < 0.2:
            p = tuple(random.sample(range(many), many))
        found.append((p, random.random() < harmless))
    return found


def agreeing(told):
    """All triples, and None, that agree, by what the document says."""
    return [triple for triple in ALL if all(brute.is_allowed(triple, p) == harmless for p, harmless in told)]


WRONG_FINDINGS = (
    (None, 0), (3, 0), ("01", 0), ({0: 1}, 0), (Odd(), 0), ([None], 0), ([((1, 0), True), 3], 1), ([((1, 0),)], 0),
    ([((1, 0), True, True)], 0), ([((1, 0), 1)], 0), ([((1, 0), 0)], 0), ([((1, 0), None)], 0), ([((1, 0), "True")], 0),
    ([((1, 0), Odd())], 0), ([((1, 0), True), ((0, 0), True)], 1), ([(True, (1, 0))], 0), ([(None, True)], 0),
    ([((1, 0), True), ("10", False), None], 1), (((1, 0), True), 0), ([((0, True), True)], 0), ([{(1, 0): 1, True: 2}], 0),
)


class FindingsTest(Case):
    def test_checked(self):
        inner, finding = [1, 0], [[0, 2, 1], False]
        value = [(inner, True), finding, ((), True)]
        told = checked_findings(value=value)
        inner[0] = inner[1] = finding[1] = 7
        value.append(3)
        self.assertEqual(told, (((1, 0), True), ((0, 2, 1), False), ((), True)))
        self.is_all_tuples(told)
        self.assertEqual(checked_findings(()), ())
        self.assertIs(checked_findings([((1, 0), True)])[0][1], True)

    def test_wrong_findings(self):
        wrong = [*WRONG_FINDINGS, *(([((1, 0), True), (value, True)], 1) for value, _ in WRONG_REORDERINGS)]
        for value, at in wrong:
            for function in (checked_findings, widest, clash):
                self.raises_at(InvalidReordering, at, function, value)
            self.raises_at(InvalidReordering, at, agrees, None, value)
            self.raises_at(InvalidReordering, at, agrees, (0, 0, 1), value)
            self.raises_at(InvalidReordering, at, is_clash, value, None)

    def test_wrong_triples_come_first(self):
        for value, at in WRONG_TRIPLES:
            if value is not None:
                self.raises_at(InvalidTriple, at, agrees, value, None)

    def test_agrees(self):
        random = Random(431)
        for _ in range(150):
            told = some_findings(random, most=3)
            good = agreeing(told)
            for triple in random.sample(ALL, 20) + [None]:
                self.assertIs(agrees(triple, told), triple in good)

    def test_told(self):
        told = [[[2, 1, 0], True], [[1, 0], False]]
        self.assertIs(agrees(triple=[0, 0, 2], told=told), True)
        self.assertIs(agrees((0, 0, 1), told), False)
        self.assertIs(agrees(None, told), False)
        self.assertIs(agrees(None, [((1, 0), False), ((0, 1), True)]), True)
        self.assertIs(agrees(None, [((0, 1), False)]), False)
        self.assertIs(agrees((10 ** 30, 10 ** 30, 10 ** 30), [((1, 0), False)]), True)
        self.assertIs(agrees(None, []), True)
        self.assertIs(agrees((0, 0, 1), ()), True)

    def test_1000_places(self):
        turned = tuple((at + 400) % 1000 for at in range(1000))
        self.assertEqual(widest([(turned, True)]), (0, 0, 200))
        self.assertEqual(widest([(turned, True), (exchange(1000, 3, 503), True)]), (0, 0, 100))
        self.assertIsNone(clash([(turned, True), (exchange(1000, 3, 503), False)]))
        self.assertEqual(clash([(turned, True), (exchange(1000, 3, 403), False)]), (0, 1))


class WidestTest(Case):
    def test_as_the_document_says(self):
        random = Random(441)
        for _ in range(300):
            told = some_findings(random)
            moved = [p for p, harmless in told if harmless and p != tuple(range(len(p)))]
            triple = widest(told)
            if not moved:
                self.assertIsNone(triple)
                continue
            allowing = [t for t in ALL[1:] if all(brute.is_allowed(t, p) for p in moved)]
            self.assertEqual(triple, tuple(max(t[at] for t in allowing) for at in range(3)))
            self.assertIn(triple, allowing)
            good = agreeing(told)
            self.assertEqual(bool(good), triple in good)
            for first, last, step in good:
                self.assertTrue(first <= triple[0] and last <= triple[1] and triple[2] % step == 0)

    def test_told(self):
        self.assertEqual(widest(told=[[[2, 1, 0], True], [[0, 1, 6, 3, 4, 5, 2, 7], True]]), (0, 0, 2))
        self.assertEqual(widest([(framed(3, 1, 4), True), (framed(2, 5, 6), True), ((1, 0), False)]), (2, 1, 2))
        self.assertIsNone(widest([]))
        self.assertIsNone(widest([((1, 0), False), ((0, 1), True), ((0, 1), False)]))


class ClashTest(Case):
    def is_least_clash(self, told, value):
        some = [told[at] for at in value]
        return not agreeing(some) and all(agreeing(some[:at] + some[at + 1:]) for at in range(len(some)))

    def test_as_by_all_triples(self):
        random = Random(442)
        sizes = {}
        for _ in range(500):
            told = some_findings(random, harmless=0.7)
            value = clash(told)
            self.assertEqual(value is None, bool(agreeing(told)))
            if value is not None:
                self.is_all_tuples(value)
                self.assertEqual(list(value), sorted(set(value)))
                self.assertTrue(self.is_least_clash(told, value))
                self.assertIs(is_clash(told, value), True)
                sizes[len(value)] = sizes.get(len(value), 0) + 1
        self.assertEqual(set(sizes), {1, 2, 3})

    def test_is_clash_as_by_all_subsets(self):
        random = Random(443)
        for _ in range(25):
            told = some_findings(random, most=4, harmless=0.7)
            for bits in range(2 ** len(told)):
                value = tuple(at for at in range(len(told)) if bits >> at & 1)
                self.assertIs(is_clash(told, value), self.is_least_clash(told, value))

    def test_told(self):
        self.assertEqual(clash(told=[[[2, 1, 0], True], [[0, 3, 2, 1], False]]), (0, 1))
        self.assertEqual(clash([((0, 1), False)]), (0,))
        self.assertIsNone(clash([]))
        self.assertIsNone(clash([((1, 0), False)]))
        self.assertIs(is_clash(told=[[[0, 1], False]], value=(0,)), True)

    def test_many_that_are_needed(self):
        # Each of them is needed for one end, or for one prime divisor.
        told = [(framed(0, 9, 30), True), (framed(9, 0, 30), True)]
        told += [(framed(9, 9, step), True) for step in (6, 10, 15, 30, 60)] + [(framed(0, 0, 1), False)]
        value = clash(told)
        self.assertIs(is_clash(told, value), True)
        self.assertEqual(value, (0, 1, 2, 3, 4, 7))
        value = clash(told * 20)
        self.assertIs(is_clash(told * 20, value), True)
        self.assertEqual(len(value), 6)

    def test_what_is_no_clash(self):
        told = [((2, 1, 0), True), ((1, 0), False), ((0, 3, 2, 1), False), ((0, 1), True)]
        self.assertIs(is_clash(told, (0, 2)), True)
        wrong = (
            None, 3, "02", [0, 2], (), (0,), (2,), (2, 0), (0, 0, 2), (0, 2, 2), (0, 1, 2), (0, 2, 3), (0, 1), (0, 4),
            (-4, 2), (0, None), (0, 2.0), (False, 2), (0, "2"), ((0, 2),), {0: 2}, Odd(), (0, Odd()), (0, 10 ** 30),
        )
        for value in wrong:
            self.assertIs(is_clash(told, value), False, value)
