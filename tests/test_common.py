"""What several files need."""

import unittest
from itertools import combinations
from random import Random

from endsandround.common import LotChain, divisors, first_row, least_holding, prime_divisors, times, turned_pairs


class CommonTest(unittest.TestCase):
    def test_divisors(self):
        for number in range(1, 400):
            wanted = tuple(d for d in range(1, number + 1) if number % d == 0)
            self.assertEqual(divisors(number), wanted)
            primes = tuple(d for d in wanted if d > 1 and all(d % e for e in range(2, d)))
            self.assertEqual(prime_divisors(number), primes)

    def test_least_holding(self):
        for highest in range(8):
            for least in range(highest + 1):
                self.assertEqual(least_holding(highest, lambda n: n >= least), least)

    def test_times(self):
        for factor in (0, 1, 2, 7, 10 ** 20):
            for many in range(40):
                self.assertEqual(times(factor, many), factor ** many)
        self.assertEqual(times(1, 10 ** 30), 1)

    def test_turned_pairs(self):
        random = Random(1)
        for many in (0, 1, 2, 3, 8, 30):
            values = [random.randrange(10) for _ in range(many)]
            self.assertEqual(turned_pairs(values), len([1 for one, other in combinations(values, 2) if one > other]))

    def test_first_row(self):
        self.assertEqual(first_row(1, lambda n: (2 * n, 2 * n + 1, n + 1), lambda n: n == 5), (0, 1))
        self.assertIsNone(first_row(0, lambda n: (0,), lambda n: n == 1))

    def test_lot_chain(self):
        chain = LotChain([2, 0], lambda n: (n + 1,) if n < 5 else (4,), 10)
        self.assertEqual(chain.lots[:3], [(0, 2), (1, 3), (2, 4)])
        self.assertEqual([chain.lot(at) for at in (4, 6, 7, 10 ** 30)], [(4,), (4,), (5,), (4,)])
        short = LotChain([0], lambda n: (n + 1,), 3)
        self.assertIsNone(short.loop)
        self.assertEqual(short.lot(3), (3,))


if __name__ == "__main__":
    unittest.main()
