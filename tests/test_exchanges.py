"""Point 35: exchanges."""

from random import Random

from endsandround.alike import are_alike
from endsandround.errors import InvalidRow, InvalidTriple, Refused
from endsandround.exchanges import exchange_count, fewest_exchanges, greatest_count
from tests import brute
from tests.checks import WRONG_NUMBER_ROWS, WRONG_TRIPLES, Case

TRIPLES = [(first, last, step) for first in (0, 1, 2) for last in (0, 1) for step in (1, 2, 3, 10 ** 20)]


def slow_counts(triple, row):
    """For each row that exchanges lead to, the fewest of them, by trying all."""
    first, last, step = triple
    counts = {row: 0}
    queue = [row]
    for found in queue:
        for place in range(first, len(row) - last):
            if place + step < len(row) - last:
                changed = brute.swapped(found, place, place + step)
                if changed not in counts:
                    counts[changed] = counts[found] + 1
                    queue.append(changed)
    return counts


class ExchangesTest(Case):
    def walk(self, triple, one, other, exchanges):
        first, last, step = triple
        row = tuple(one)
        for place in exchanges:
            self.assertTrue(first <= place and place + step < len(row) - last)
            row = brute.swapped(row, place, place + step)
            self.assertTrue(are_alike(triple, one, row))
        self.assertEqual(row, tuple(other))

    def test_as_by_trying(self):
        random = Random(351)
        for triple in TRIPLES:
            for length in range(8):
                row = tuple(random.choice((0, 1, 4)) for _ in range(length))
                counts = slow_counts(triple, row)
                self.assertEqual(sorted(counts), brute.alike_rows(triple, row))
                for other in random.sample(sorted(counts), min(10, len(counts))):
                    self.assertEqual(exchange_count(triple, row, other), counts[other])
                    told = fewest_exchanges(triple, row, other)
                    self.is_all_tuples(told)
                    self.assertEqual(len(told), counts[other])
                    self.walk(triple, row, other, told)
                if len(counts) < 40:
                    greatest = max(max(slow_counts(triple, other).values()) for other in counts)
                    self.assertEqual(greatest_count(triple, row), greatest)

    def test_told(self):
        self.assertEqual(exchange_count(triple=[0, 0, 2], one=[0, 5, 1, 5, 2], other=[2, 5, 1, 5, 0]), 3)
        told = fewest_exchanges(triple=[0, 0, 2], one=[0, 5, 1, 5, 2], other=[2, 5, 1, 5, 0])
        self.walk((0, 0, 2), (0, 5, 1, 5, 2), (2, 5, 1, 5, 0), told)
        self.assertEqual(greatest_count(triple=[0, 0, 2], row=[0, 5, 1, 5, 2]), 3)
        self.assertEqual(fewest_exchanges((0, 0, 1), (), ()), ())
        self.assertEqual(exchange_count((3, 3, 1), (0, 1, 2), (0, 1, 2)), 0)
        self.assertEqual(greatest_count((3, 3, 1), (0, 1, 2)), 0)
        self.assertEqual(greatest_count((0, 0, 1), ()), 0)

    def test_100_entries(self):
        random = Random(352)
        for triple, many in (((0, 0, 1), 100), ((3, 4, 2), 3), ((0, 1, 40), 2)):
            row = tuple(random.randrange(many) for _ in range(100))
            other = list(row)
            for start in range(triple[0], min(triple[0] + triple[2], 100 - triple[1])):
                part = other[start:100 - triple[1]:triple[2]]
                random.shuffle(part)
                other[start:100 - triple[1]:triple[2]] = part
            told = fewest_exchanges(triple, row, other)
            self.walk(triple, row, other, told)
            self.assertEqual(len(told), exchange_count(triple, row, other))
            self.assertLessEqual(len(told), greatest_count(triple, row))
        down = tuple(range(100))[::-1]
        self.assertEqual(len(fewest_exchanges((0, 0, 1), down, sorted(down))), 4950)

    def test_10000_entries(self):
        down = list(range(10000))[::-1]
        self.assertEqual(exchange_count((0, 0, 1), down, sorted(down)), 9999 * 5000)
        self.assertEqual(greatest_count((0, 0, 1), down), 9999 * 5000)
        self.assertEqual(greatest_count((0, 0, 1), [0, 1] * 5000), 5000 * 5000)
        self.assertEqual(exchange_count((0, 0, 1), [0] * 5000 + [1] * 5000, [1] * 5000 + [0] * 5000), 5000 * 5000)
        self.assertEqual(exchange_count((0, 0, 5000), down, down[5000:] + down[:5000]), 5000)

    def test_refused(self):
        for function in (exchange_count, fewest_exchanges):
            self.raises_at(Refused, 0, function, (0, 0, 1), (0, 1), (0, 0))
            self.raises_at(Refused, 0, function, (0, 0, 2), (0, 1), (1, 0))
            self.raises_at(Refused, 0, function, (0, 0, 1), (0, 1), (1, 0, 0))

    def test_wrong_triples_and_rows(self):
        for value, at in WRONG_TRIPLES:
            self.raises_at(InvalidTriple, at, exchange_count, value, None, None)
            self.raises_at(InvalidTriple, at, fewest_exchanges, value, None, None)
            self.raises_at(InvalidTriple, at, greatest_count, value, None)
        for value, at in WRONG_NUMBER_ROWS:
            for function in (exchange_count, fewest_exchanges):
                self.raises_at(InvalidRow, at, function, (0, 0, 1), value, None)
                self.raises_at(InvalidRow, at, function, (0, 0, 1), (0, 1), value)
            self.raises_at(InvalidRow, at, greatest_count, (0, 0, 1), value)

    def test_nothing_is_changed(self):
        triple, one, other = [0, 0, 1], [2, 1, 0], [0, 1, 2]
        for function in (exchange_count, fewest_exchanges):
            function(triple, one, other)
        greatest_count(triple, one)
        self.assertEqual((triple, one, other), ([0, 0, 1], [2, 1, 0], [0, 1, 2]))
