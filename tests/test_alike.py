"""Point 33: rows alike, what shows that they are not, reorderings that lead from one to the other."""

from itertools import product
from math import factorial
from random import Random

from endsandround.alike import are_alike, leading, leading_count, unlikeness
from endsandround.errors import InvalidRow, InvalidTriple, Refused
from tests import brute
from tests.checks import WRONG_NUMBER_ROWS, WRONG_TRIPLES, Case

TRIPLES = [(first, last, step) for first in (0, 1, 3) for last in (0, 1, 2) for step in (1, 2, 3, 10 ** 30)]
FUNCTIONS = (are_alike, unlikeness, leading, leading_count)


def slow_unlikeness(triple, one, other):
    if len(one) != len(other):
        return ("length",)
    length = len(one)
    for place in range(length):
        if brute.bag_of(triple, length, place) is None and one[place] != other[place]:
            return "place", place
    found = []
    for place in range(length):
        bag = brute.bag_of(triple, length, place)
        places = [p for p in range(length) if bag is not None and brute.bag_of(triple, length, p) == bag]
        for command in {*one, *other}:
            if [one[p] for p in places].count(command) != [other[p] for p in places].count(command):
                found.append(("bag", places[0], command))
    return min(found, default=None)


class AlikeTest(Case):
    def test_as_the_document_says(self):
        random = Random(331)
        for triple in TRIPLES:
            for length in range(6):
                rows = list(product(range(3 if length < 4 else 2), repeat=length))
                for one in random.sample(rows, min(9, len(rows))):
                    for other in (one, *random.sample(rows, min(9, len(rows))), (*one, 0), one[1:]):
                        wanted = brute.are_alike(triple, one, other)
                        self.assertIs(are_alike(triple, one, other), wanted)
                        told = unlikeness(triple, one, other)
                        self.assertEqual(told, slow_unlikeness(triple, one, other))
                        self.assertEqual(told is None, wanted)
                        self.is_all_tuples(told)

    def test_told(self):
        self.assertIs(are_alike(triple=[1, 1, 1], one=[0, 1, 2, 3], other=(0, 2, 1, 3)), True)
        self.assertIs(are_alike((1, 1, 2), (0, 1, 2, 3), (0, 2, 1, 3)), False)
        self.assertEqual(unlikeness(triple=(1, 1, 2), one=[0, 1, 2, 3], other=[0, 2, 1, 3]), ("bag", 1, 1))
        self.assertEqual(unlikeness((0, 0, 1), (0,), (0, 0)), ("length",))
        self.assertEqual(unlikeness((1, 0, 1), (0, 1), (1, 0)), ("place", 0))
        self.assertEqual(unlikeness((0, 1, 1), (0, 1, 0), (0, 0, 1)), ("place", 2))
        self.assertEqual(unlikeness((2, 0, 2), (0, 0, 5, 7, 7), (0, 0, 7, 7, 9)), ("bag", 2, 5))
        self.assertEqual(unlikeness((0, 0, 2), (1, 3, 1, 2), (1, 4, 1, 2)), ("bag", 1, 3))

    def test_empty_and_short_rows(self):
        self.assertIsNone(unlikeness((2, 2, 3), (), ()))
        self.assertEqual(leading((2, 2, 3), (), ()), ())
        self.assertEqual(leading_count((2, 2, 3), (), ()), 1)
        self.assertEqual(unlikeness((2, 2, 3), (0, 1, 0), (0, 0, 0)), ("place", 1))
        self.assertEqual(leading((2, 2, 3), (0, 1, 0), (0, 1, 0)), (0, 1, 2))
        self.assertEqual(leading_count((2, 2, 3), (0, 0, 0), (0, 0, 0)), 1)
        self.assertEqual(unlikeness((0, 0, 10 ** 30), (0, 1, 0), (0, 0, 1)), ("bag", 1, 0))

    def test_great_entries(self):
        big = 10 ** 40
        self.assertIs(are_alike((0, 0, 1), (big, 0, big + 1), (big + 1, big, 0)), True)
        self.assertEqual(unlikeness((0, 0, 1), (big, 0), (big + 1, 0)), ("bag", 0, big))

    def test_10000_entries(self):
        random = Random(332)
        one = [random.randrange(50) for _ in range(10000)]
        for step in (1, 7, 5000, 10 ** 9):
            other = list(one)
            for start in range(step):
                places = list(range(100, 9900))[start::step]
                if not places:
                    break
                entries = [one[place] for place in places]
                random.shuffle(entries)
                for place, entry in zip(places, entries):
                    other[place] = entry
            triple = (100, 100, step)
            self.assertIs(are_alike(triple, one, other), True)
            p = leading(triple, one, other)
            self.assertEqual(brute.moved(one, p), tuple(other))
            self.assertTrue(brute.is_allowed(triple, p))
            self.assertGreater(leading_count(triple, one, other), 0)
            self.assertEqual(unlikeness(triple, one, other[:-1] + [99]), ("place", 9999))


class LeadingTest(Case):
    def test_as_by_all_reorderings(self):
        random = Random(333)
        for triple in TRIPLES:
            for length in range(6):
                allowed = [p for p in brute.reorderings(length) if brute.is_allowed(triple, p)]
                for _ in range(6):
                    one = tuple(random.randrange(3) for _ in range(length))
                    for other in (brute.moved(one, random.choice(allowed)), tuple(sorted(one))):
                        ways = [p for p in allowed if brute.moved(one, p) == other]
                        self.assertEqual(leading_count(triple, one, other), len(ways))
                        if not ways:
                            self.raises_at(Refused, 0, leading, triple, one, other)
                            continue
                        p = leading(triple, one, other)
                        self.is_all_tuples(p)
                        self.assertIn(p, ways)
                        for place in range(length):
                            self.assertEqual(p[place] != place, one[place] != other[place])

    def test_counts(self):
        self.assertEqual(leading_count(triple=(0, 0, 1), one=[5] * 30, other=[5] * 30), factorial(30))
        self.assertEqual(leading_count((0, 0, 2), [5] * 7, [5] * 7), factorial(4) * factorial(3))
        self.assertEqual(leading_count((1, 2, 1), [0] * 10000, [0] * 10000), factorial(9997))
        self.assertEqual(leading_count((0, 0, 1), (0, 1), (0, 0)), 0)
        self.assertEqual(leading_count((0, 0, 1), (0, 1), (0,)), 0)
        self.assertEqual(leading(triple=[0, 0, 2], one=[0, 7, 1], other=[1, 7, 0]), (2, 1, 0))

    def test_refused(self):
        self.raises_at(Refused, 0, leading, (0, 0, 1), (0,), ())
        self.raises_at(Refused, 0, leading, (1, 0, 1), (0, 1), (1, 0))


class WrongTest(Case):
    def test_wrong_triples_come_first(self):
        for value, at in WRONG_TRIPLES:
            for function in FUNCTIONS:
                self.raises_at(InvalidTriple, at, function, value, None, None)

    def test_wrong_rows_come_from_left_to_right(self):
        for value, at in WRONG_NUMBER_ROWS:
            for function in FUNCTIONS:
                self.raises_at(InvalidRow, at, function, (0, 0, 1), value, (0,))
                self.raises_at(InvalidRow, at, function, (0, 0, 1), value, (0, 0, 0, 0, 0, 0, None))
                self.raises_at(InvalidRow, at, function, (0, 0, 1), (0, 1, 2, 3, 4, 5, 6, 7), value)

    def test_nothing_is_changed(self):
        triple, one, other = [0, 0, 1], [2, 1, 0], [0, 1, 2]
        for function in FUNCTIONS:
            function(triple, one, other)
        self.assertEqual((triple, one, other), ([0, 0, 1], [2, 1, 0], [0, 1, 2]))
