"""Point 32: triples, rows of numbers, bags."""

from endsandround.errors import InvalidRow, InvalidTriple
from endsandround.triples import bags, checked_triple, is_triple, number_row
from tests import brute
from tests.checks import WRONG_NUMBER_ROWS, WRONG_TRIPLES, Case, Odd

BIG = 10 ** 40


class TripleTest(Case):
    def test_is_triple(self):
        for value in ((0, 0, 1), (3, 2, 5), (BIG, BIG, BIG)):
            self.assertIs(is_triple(value=value), True)
            self.assertIs(is_triple(list(value)), False)
            self.assertEqual(checked_triple(value=value), value)
            self.assertEqual(checked_triple(list(value)), value)
            self.is_all_tuples(checked_triple(list(value)))
        for value, _ in WRONG_TRIPLES:
            self.assertIs(is_triple(value), False)
        self.assertIs(is_triple(Odd()), False)
        self.assertIs(is_triple((0, 0, Odd())), False)

    def test_wrong_triples(self):
        for value, at in (*WRONG_TRIPLES, (Odd(), 3), ((Odd(), 0, 1), 0), ((0, 0, Odd()), 2)):
            self.raises_at(InvalidTriple, at, checked_triple, value)
            self.raises_at(InvalidTriple, at, bags, value, 3)

    def test_later_changes(self):
        value = [1, 2, 3]
        told = checked_triple(value)
        value[0] = 7
        self.assertEqual(told, (1, 2, 3))

    def test_number_row(self):
        row = [0, BIG, 3]
        told = number_row(row)
        row[0] = 9
        self.assertEqual(told, (0, BIG, 3))
        for value, at in WRONG_NUMBER_ROWS:
            self.raises_at(InvalidRow, at, number_row, value)


class BagsTest(Case):
    def test_as_the_document_says(self):
        for first in range(4):
            for last in range(4):
                for step in (1, 2, 3, 7, BIG):
                    triple = (first, last, step)
                    for length in range(12):
                        lots = {}
                        for place in range(length):
                            if brute.bag_of(triple, length, place) is not None:
                                lots.setdefault(place % step, []).append(place)
                        wanted = tuple(sorted(tuple(lot) for lot in lots.values()))
                        self.assertEqual(bags(triple, length), wanted)
                        self.is_all_tuples(bags(triple, length))

    def test_told(self):
        self.assertEqual(bags(triple=[1, 1, 2], length=7), ((1, 3, 5), (2, 4)))
        self.assertEqual(bags((0, 0, BIG), 3), ((0,), (1,), (2,)))
        self.assertEqual(bags((2, 2, 1), 4), ())
        self.assertEqual(bags((3, 3, 1), 4), ())
        self.assertEqual(bags((BIG, 0, 1), 4), ())
        self.assertEqual(bags((0, BIG, 1), 4), ())
        self.assertEqual(bags((0, 0, 1), 0), ())

    def test_10000_places(self):
        self.assertEqual(bags((0, 0, 1), 10000), (tuple(range(10000)),))
        self.assertEqual(len(bags((0, 0, 10000), 10000)), 10000)
        self.assertEqual([len(bag) for bag in bags((1, 2, 3000), 10000)].count(4), 997)
