"""Points 39 and 40: lots of rows, machines of lots."""

from random import Random

from endsandround.claims import Claims, broken
from endsandround.errors import InvalidRow, Refused
from endsandround.machines import Machine, effect
from endsandround.reorderings import back
from endsandround.rowlots import lot_machine, row_lot, row_path
from tests import brute
from tests.checks import Case
from tests.test_claims import some_claims

PAIRS = Claims(2, [(2, 1, 0)])
ENDS = Claims(3, [(0, 2, 1, 3)])
WRONG_ROWS = ((None, 0), (3, 0), ("01", 0), ((0, 2), 1), ([0, -1], 1), ((True,), 0), ((0, 1.0), 1), ((0, None), 1),
              ({0: 1}, 0), (b"\0", 0))


def slow_moved(claims, row, move):
    index, way, before = move
    p = claims.reorderings[index]
    part = row[before:before + len(p)]
    if way == 1:
        p = back(p)
    return row[:before] + brute.moved(part, p) + row[before + len(p):]


def all_moves(claims, length):
    return [
        (index, way, before)
        for index, p in enumerate(claims.reorderings) for way in (0, 1) for before in range(length - len(p) + 1)
    ]


def slow_lot(claims, row):
    found = [row]
    for one in found:
        for move in all_moves(claims, len(row)):
            other = slow_moved(claims, one, move)
            if other not in found:
                found.append(other)
    return tuple(sorted(found))


class RowLotTest(Case):
    def walk(self, claims, row, other, path):
        self.is_all_tuples(path)
        row = tuple(row)
        for move in path:
            self.assertIn(move, all_moves(claims, len(row)))
            row = slow_moved(claims, row, move)
        self.assertEqual(row, tuple(other))

    def test_as_by_trying_all_moves(self):
        random = Random(391)
        for _ in range(120):
            claims = some_claims(random)
            row = tuple(random.randrange(claims.commands) for _ in range(random.randrange(7)))
            lot = slow_lot(claims, row)
            self.assertEqual(row_lot(claims, row), lot)
            for other in random.sample(lot, min(4, len(lot))):
                self.assertEqual(row_lot(claims, other), lot)
                self.walk(claims, row, other, row_path(claims, row, other))
            for _ in range(3):
                other = tuple(random.randrange(claims.commands) for _ in row)
                self.assertEqual(row_path(claims, row, other) is None, other not in lot)

    def test_told(self):
        self.assertEqual(row_lot(claims=PAIRS, row=[1, 0, 0]), ((0, 0, 1), (1, 0, 0)))
        self.walk(PAIRS, (1, 0, 0, 1), (0, 1, 1, 0), row_path(claims=PAIRS, row=[1, 0, 0, 1], other=[0, 1, 1, 0]))
        self.assertIsNone(row_path(PAIRS, (1, 0, 0), (0, 1, 0)))
        self.assertIsNone(row_path(PAIRS, (1, 0, 0), (1, 0, 0, 0)))
        self.assertIsNone(row_path(PAIRS, (1, 0, 0), ()))
        self.assertEqual(row_path(PAIRS, (1, 0, 0), (1, 0, 0)), ())
        self.is_all_tuples(row_lot(PAIRS, [1, 0, 0]))

    def test_empty_rows_and_idle_claims(self):
        idle = Claims(2, [(0, 1, 2), (), (0,)])
        for claims in (idle, Claims(2, []), PAIRS):
            self.assertEqual(row_lot(claims, ()), ((),))
            self.assertEqual(row_path(claims, (), ()), ())
            self.assertEqual(row_lot(claims, [0, 1]), ((0, 1),))
        self.assertEqual(row_lot(idle, (0, 1) * 6), ((0, 1) * 6,))
        self.assertIsNone(row_path(idle, (0, 1), (1, 0)))

    def test_a_ring_is_walked_both_ways(self):
        turn = Claims(4, [(1, 2, 3, 4, 5, 6, 7, 0)])
        row = (0, 1, 2, 3, 3, 2, 1, 1)
        for other in row_lot(turn, row):
            self.walk(turn, row, other, row_path(turn, row, other))
        self.assertEqual(len(row_lot(turn, row)), 8)

    def test_more_than_300_rows(self):
        all_ways = Claims(5, [(1, 0)])
        self.assertEqual(len(row_lot(all_ways, (0,) * 7 + (1, 2))), 72)
        self.assertEqual(len(row_lot(Claims(2, [(1, 0)]), (0,) * 5 + (1,) * 5)), 252)
        self.assertEqual(len(row_lot(all_ways, (0,) * 10 + (1, 2))), 132)
        for row in ((0, 1, 2, 3, 4, 0), (0,) * 6 + (1,) * 5, (0, 1) * 6):
            self.raises_at(Refused, 300, row_lot, all_ways, row)
            self.raises_at(Refused, 300, row_path, all_ways, row, row)
            self.raises_at(Refused, 300, row_path, all_ways, row, ())
            self.raises_at(Refused, 300, row_path, all_ways, row, tuple(sorted(row)))
        self.assertIsNone(row_path(all_ways, (), (0, 1, 2, 3, 4, 0)))

    def test_just_300_rows(self):
        # The first five entries move among themselves, so do the last six: 20 * 15 = 300 rows, or 20 * 20.
        def pair(at):
            return tuple(brute.swapped(tuple(range(11)), at, at + 1))

        claims = Claims(3, [tuple(pair(at)) for at in (0, 1, 2, 3, 5, 6, 7, 8, 9)])
        self.assertEqual(len(row_lot(claims, (0, 0, 0, 1, 2, 0, 0, 0, 0, 1, 1))), 300)
        self.assertEqual(len(row_path(claims, (0, 0, 0, 1, 2, 0, 0, 0, 0, 1, 1), (2, 1, 0, 0, 0, 1, 1, 0, 0, 0, 0))), 15)
        self.raises_at(Refused, 300, row_lot, claims, (0, 0, 0, 1, 2, 0, 0, 0, 1, 1, 1))
        self.raises_at(Refused, 300, row_path, claims, (0, 0, 0, 1, 2, 0, 0, 0, 1, 1, 1), ())

    def test_rows_of_one_lot_have_the_same_effect(self):
        random = Random(392)
        met = 0
        for machine in (*brute.near_machines(392, 150), *brute.small_machines()):
            if machine.commands == 1:
                continue
            claims = some_claims(random, commands=(machine.commands,), most=1, places=4)
            if broken(claims, machine) is not None:
                continue
            row = tuple(random.randrange(machine.commands) for _ in range(5))
            for other in row_lot(claims, row):
                self.assertEqual(effect(machine, row), effect(machine, other))
                met += row != other
        self.assertGreater(met, 30)

    def test_wrong_rows(self):
        for value, at in WRONG_ROWS:
            self.raises_at(InvalidRow, at, row_lot, PAIRS, value)
            self.raises_at(InvalidRow, at, row_path, PAIRS, value, None)
            self.raises_at(InvalidRow, at, row_path, Claims(2, [(1, 0)]), (0, 1) * 6, value)

    def test_nothing_is_changed(self):
        row, other = [1, 0, 0], [0, 0, 1]
        row_lot(PAIRS, row)
        row_path(PAIRS, row, other)
        self.assertEqual((row, other), ([1, 0, 0], [0, 0, 1]))


def slow_lots(claims, length):
    """The lots of all rows up to a length, those of shorter rows first, then ascending by their first rows."""
    lots = []
    for size in range(length + 1):
        for row in brute.rows(claims.commands, size):
            if not any(row in lot for lot in lots):
                lots.append(slow_lot(claims, row))
    return lots


class LotMachineTest(Case):
    def test_as_the_document_says(self):
        random = Random(401)
        for _ in range(60):
            claims = some_claims(random)
            length = random.randrange(5 if claims.commands == 2 else 4)
            lots = slow_lots(claims, length)
            if len(lots) + 1 > 100:
                self.raises_at(Refused, len(lots) + 1, lot_machine, claims, length)
                continue
            machine = lot_machine(claims, length)
            last = len(lots)
            steps = []
            for lot in lots:
                onward = [(*lot[0], c) for c in range(claims.commands)]
                steps.append([
                    [at for at, other in enumerate(lots) if row in other][0] if len(row) <= length else last
                    for row in onward
                ])
            self.assertEqual(machine, Machine(claims.commands, [*steps, [last] * claims.commands]))
            self.assertIsNone(broken(claims, machine))
            for _ in range(10):
                one, other = (tuple(random.randrange(claims.commands) for _ in range(length)) for _ in range(2))
                same = effect(machine, one) == effect(machine, other)
                self.assertEqual(same, any(one in lot and other in lot for lot in lots))

    def test_told(self):
        self.assertEqual(lot_machine(claims=Claims(2, []), length=0), Machine(2, [(1, 1), (1, 1)]))
        self.assertEqual(lot_machine(Claims(2, [(1, 0)]), 1).steps, ((1, 2), (3, 3), (3, 3), (3, 3)))
        self.assertEqual(lot_machine(Claims(2, [(1, 0)]), 2).steps[:3], ((1, 2), (3, 4), (4, 5)))

    def test_refused(self):
        self.assertEqual(lot_machine(Claims(2, [(0, 1)]), 5).states, 64)
        self.raises_at(Refused, 128, lot_machine, Claims(2, [(0, 1)]), 6)
        self.raises_at(Refused, 256, lot_machine, claims=Claims(2, []), length=7)
        self.raises_at(Refused, 122, lot_machine, Claims(3, []), 4)
        self.raises_at(Refused, 157, lot_machine, Claims(5, []), 3)
        # Just 100 states, and 101.
        claims = Claims(2, [(1, 0, 5, 4, 3, 2)])
        self.assertEqual(lot_machine(claims, 6).states, 100)
        self.assertEqual(len(slow_lots(claims, 6)), 99)
        claims = Claims(2, [(2, 1, 0, 3, 5, 4), (2, 1, 0, 3, 4)])
        self.assertEqual(len(slow_lots(claims, 7)), 100)
        self.raises_at(Refused, 101, lot_machine, claims, 7)
        sums = Claims(5, [(1, 0)])
        self.assertEqual(lot_machine(sums, 3).states, 57)
        self.assertEqual(lot_machine(Claims(2, [(1, 0)]), 7).states, 37)

    def test_all_machines_of_lots_keep_the_claims(self):
        for claims, length in ((Claims(2, [(1, 0)]), 7), (PAIRS, 7), (ENDS, 4), (Claims(5, [(1, 0)]), 3)):
            self.assertIsNone(broken(claims, lot_machine(claims, length)))
