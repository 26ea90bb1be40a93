"""Point 25: the exchanges, and the moves of windows, by which harms are built."""

from random import Random

from endsandround.builtharms import harmful_exchange, ring_moves, ring_sizes
from endsandround.court import may_exchange, numbers
from endsandround.reorderings import back, exchange, reordered
from tests import brute
from tests.checks import Case


def done(row, places, moves):
    for window, is_onward in moves:
        end = window + len(places)
        row = row[:window] + brute.moved(row[window:end], places if is_onward else back(places)) + row[end:]
    return row


class ExchangeTest(Case):
    def check(self, machine, triple, places):
        window, before, distance, after = harmful_exchange(machine, triple, places)
        length = before + distance + 1 + after
        end = window + len(places)
        self.assertTrue(0 <= window and end <= length)
        within, = [place for place in (before, before + distance) if window <= place < end]
        outside, = [place for place in (before, before + distance) if not window <= place < end]
        led = window + places[within - window]
        low, high = min(led, outside), max(led, outside)
        self.assertIs(may_exchange(machine, low, high - low, length - 1 - high), True)
        self.assertIs(may_exchange(machine, before, distance, after), False)

    def test_all_that_is_told(self):
        random = Random(255)
        for first in range(4):
            for last in range(4):
                for step in (1, 2, 3, 5):
                    machine = brute.beside(
                        brute.first_memory(first) if first else [(0, 0)],
                        brute.last_memory(last) if last else [(0, 0)],
                        brute.wheel(step), brute.chain(first + last),
                    )
                    triple = numbers(machine)
                    self.assertEqual(triple, (first, last, step))
                    some = [random.sample(range(many), many) for many in (2, 3, 6, 11)]
                    some += [exchange(13, i, i + step) for i in range(13 - step)]
                    some += [exchange(13, i, i + 2 * step) for i in range(13 - 2 * step)]
                    for p in some:
                        if not brute.is_allowed(triple, tuple(p)):
                            self.check(machine, triple, tuple(p))


class RingTest(Case):
    def check(self, random, commands, places):
        start, stride, far = ring_sizes(places)
        length = (commands - 1) * stride + far + len(places)
        row = tuple(random.randrange(commands) for _ in range(length))
        if row[start] == row[start + stride]:
            return False
        contents = row[start:start + commands * stride + 1:stride]
        self.assertEqual(len(contents), commands + 1)
        moves = ring_moves(places, contents)
        self.assertTrue(all(0 <= window <= length - len(places) for window, _ in moves))
        changed = done(row, places, moves)
        self.assertEqual(changed, reordered(row, exchange(length, start, start + stride)))
        return True

    def test_the_moves_do_the_exchange(self):
        random = Random(253)
        many = 0
        for size in (2, 3, 4):
            for places in brute.reorderings(size):
                if places != tuple(range(size)):
                    for commands in (2, 3, 4, 5):
                        many += self.check(random, commands, places)
        for size in (5, 9, 20):
            for commands in (2, 3, 4, 5, 6, 10):
                for _ in range(10):
                    many += self.check(random, commands, tuple(random.sample(range(size), size)))
        self.assertGreater(many, 150)

    def test_places_that_stay_at_the_ends(self):
        random = Random(254)
        for places in ((0, 1, 3, 2, 4, 5), (0, 3, 2, 1), (2, 1, 0, 3, 4), (0, 2, 3, 1, 4)):
            for _ in range(20):
                self.check(random, 5, places)
