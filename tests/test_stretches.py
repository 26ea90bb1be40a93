"""Points 50, 51 and 52: frames of moves, pieces, what is judged."""

from random import Random

from endsandround.allowing import is_allowed
from endsandround.court import numbers
from endsandround.errors import InvalidMove, Refused
from endsandround.layers import settled_behind, settled_joined
from endsandround.machines import Machine
from endsandround.moves import place_after, spread, undoing
from endsandround.reorderings import frame
from endsandround.stretches import moves_frame, moves_harmless, pieces, wrong_place
from tests import brute
from tests.checks import Case
from tests.test_claims import BEYOND
from tests.test_moves import FAR, random_move, slow_spread

CUTS = ("swap", "turn", "reverse")
TRIPLES = [None] + [(first, last, step) for first in (0, 1, 2, 5) for last in (0, 1, 2, 5) for step in (1, 2, 3, 4)]
NONE = Machine(2, [(0, 1), (0, 0)])
TURNS = Machine(2, [(1, 0), (0, 2), (2, 1)])


def slow_pieces(p):
    """As few pieces as possible: entries that stay side by side belong together."""
    starts = [0] + [place for place in range(1, len(p)) if abs(p[place] - p[place - 1]) != 1]
    ends = [*starts[1:], len(p)]
    return tuple(
        (start, end - start, min(p[start:end]), p[start] > p[end - 1]) for start, end in zip(starts, ends)
    )


def slow_wrong(triple, p):
    many = len(p)
    first, last, step = triple if triple is not None else (many, 0, 1)
    for place, to in enumerate(p):
        if place != to and (place < first or place >= many - last or (to - place) % step):
            return place
    return None


class PiecesTest(Case):
    def test_as_by_all_places(self):
        random = Random(511)
        for _ in range(2500):
            places = random.randrange(1, 16)
            moves = [random_move(random, places, CUTS) for _ in range(random.randrange(6))]
            p = slow_spread(places, moves)
            told = pieces(places, moves)
            self.is_all_tuples(told)
            self.assertEqual(told, slow_pieces(p))
            self.assertTrue(all(isinstance(piece[3], bool) for piece in told))
            self.assertLessEqual(len(told), 1 + 4 * len(moves))
            self.assertEqual(moves_frame(places, moves), frame(p))
            for triple in random.sample(TRIPLES, 6) + [None]:
                told = wrong_place(triple, places, moves)
                self.assertEqual(told, slow_wrong(triple, p))
                self.assertEqual(told is None, is_allowed(triple, p))

    def test_the_examples(self):
        told = pieces(FAR, [("reverse", 0, FAR), ("reverse", 2, FAR - 2)])
        self.assertEqual(told, ((0, 999999999999999998, 2, False), (999999999999999998, 2, 0, True)))
        self.assertEqual(moves_frame(FAR, [("deal", 5, 7, 10 ** 17 + 3)]), (6, 299999999999999975, 6))

    def test_told(self):
        self.assertEqual(pieces(places=7, moves=[["swap", 1, 2, 1, 2]]),
                         ((0, 1, 0, False), (1, 2, 4, False), (3, 1, 3, False), (4, 2, 1, False), (6, 1, 6, False)))
        self.assertEqual(pieces(3, ()), ((0, 3, 0, False),))
        self.assertEqual(pieces(1, ()), ((0, 1, 0, False),))
        self.assertEqual(pieces(1, [("reverse", 0, 1)]), ((0, 1, 0, False),))
        self.assertEqual(pieces(2, [("reverse", 0, 2)]), ((0, 2, 0, True),))
        self.assertEqual(pieces(2, [("turn", 0, 2, 1)]), ((0, 2, 0, True),))
        self.assertEqual(pieces(5, [("turn", 1, 3, 6), ("reverse", 2, 1)]), ((0, 5, 0, False),))
        self.assertEqual(moves_frame(places=9, moves=[["turn", 1, 4, 2]]), (1, 4, 2))
        self.assertEqual(wrong_place(triple=(0, 5, 2), places=9, moves=[["turn", 1, 4, 2]]), 4)
        self.assertIsNone(wrong_place((1, 4, 2), 9, [("turn", 1, 4, 2)]))

    def test_equal_pieces(self):
        random = Random(512)
        met = {True: 0, False: 0}
        for _ in range(600):
            places = random.randrange(1, 6)
            one, other = ([random_move(random, places, CUTS) for _ in range(random.randrange(4))] for _ in range(2))
            same = slow_spread(places, one) == slow_spread(places, other)
            self.assertEqual(pieces(places, one) == pieces(places, other), same)
            met[same] += 1
        self.assertGreater(min(met.values()), 30)

    def test_200_moves_of_far_places(self):
        random = Random(513)
        moves = [random_move(random, FAR, CUTS) for _ in range(200)]
        told = pieces(FAR, moves)
        self.assertLessEqual(len(told), 801)
        self.assertGreater(len(told), 100)
        self.assertEqual(sum(length for _, length, _, _ in told), FAR)
        for start, length, to, turned in told[::20]:
            for i in (0, length // 2, length - 1):
                self.assertEqual(place_after(FAR, moves, start + i), to + (length - 1 - i if turned else i))
        self.assertEqual(pieces(FAR, moves[:100] + list(undoing(FAR, moves[:100]))), ((0, FAR, 0, False),))
        self.assertIsNone(moves_frame(FAR, moves[:100] + list(undoing(FAR, moves[:100]))))
        first = wrong_place(None, FAR, moves)
        self.assertNotEqual(place_after(FAR, moves, first), first)
        self.assertEqual(moves_frame(FAR, moves)[0], first)

    def test_refused(self):
        for bad in (("deal", 0, 2, 2), ("stride", 0, 3, 2), ("deal", 0, 1, 1), ("stride", 0, 1, 0)):
            for ahead in ((), (("turn", 0, 3, 1),), (("turn", 0, 3, 1), ("reverse", 1, 2), ("swap", 0, 1, 0, 1))):
                moves = [*ahead, bad, ("deal", 0, 2, 2)]
                self.raises_at(Refused, len(ahead), pieces, 6, moves)
                self.raises_at(Refused, len(ahead), moves_frame, 6, moves)
                self.raises_at(Refused, len(ahead), wrong_place, (0, 0, 1), 6, moves)
                self.raises_at(Refused, len(ahead), wrong_place, None, 6, moves)
                self.raises_at(InvalidMove, len(ahead) + 2, pieces, 6, [*moves, ("deal", 0, 2, 4)])
            self.raises_at(Refused, 0, pieces, 6, [bad])
            self.raises_at(Refused, 0, wrong_place, (0, 0, 1), 6, [bad])


class FrameTest(Case):
    def test_single_moves_as_by_all_places(self):
        random = Random(501)
        for _ in range(3000):
            places = random.randrange(1, 30)
            move = random_move(random, places)
            self.assertEqual(moves_frame(places, [move]), frame(spread(places, [move])))

    def test_idle_ones(self):
        for move in (("turn", 1, 4, 8), ("turn", 1, 4, 0), ("reverse", 3, 1), ("stride", 2, 1, 7), ("deal", 0, 1, 9),
                     ("deal", 0, 9, 1), ("stride", 0, 5, 11), ("stride", 0, 5, 1)):
            self.assertIsNone(moves_frame(10, [move]))
        self.assertIsNone(moves_frame(10, []))

    def test_far_ones_as_the_document_says(self):
        self.assertEqual(moves_frame(FAR, [("swap", 7, 6, 10 ** 9, 14)]), (7, FAR - 7 - 20 - 10 ** 9, 2))
        self.assertEqual(moves_frame(FAR, [("turn", 2, 10 ** 17, 4 * 10 ** 5 + 6)]), (2, FAR - 2 - 10 ** 17, 2))
        self.assertEqual(moves_frame(FAR, [("reverse", 0, FAR)]), (0, 0, 1))
        self.assertEqual(moves_frame(FAR, [("reverse", 1, FAR - 1)]), (1, 0, 2))
        self.assertEqual(moves_frame(FAR, [("stride", 1, 10 ** 17, 21)]), (2, FAR - 1 - 10 ** 17, 20))
        self.assertEqual(moves_frame(FAR, [("deal", 0, 10 ** 9, 10 ** 9)]), (1, 1, 10 ** 9 - 1))


class HarmlessTest(Case):
    def test_as_the_document_says(self):
        random = Random(521)
        met = {True: 0, False: 0}
        machines = (*brute.near_machines(521, 80), *brute.small_machines(), TURNS, NONE)
        for machine in machines:
            triple = numbers(machine)
            least = 1
            if triple is not None:
                least = settled_behind(machine) + settled_joined(machine) + triple[2] + 1
            for _ in range(4):
                places = random.randrange(least, least + 8)
                names = random.choice((CUTS, ("deal", "stride")))
                moves = [random_move(random, places, names) for _ in range(1 if len(names) == 2 else random.randrange(3))]
                wanted = brute.is_allowed(triple, slow_spread(places, moves))
                told = moves_harmless(machine, places, moves)
                self.assertIs(told, wanted)
                met[wanted] += 1
                if machine.commands ** places <= 256:
                    self.assertIs(told, brute.is_harmless(machine, slow_spread(places, moves)))
                if triple is not None:
                    for short in range(1, least):
                        self.raises_at(Refused, least, moves_harmless, machine, short, [])
        self.assertGreater(min(met.values()), 50)

    def test_told(self):
        self.assertIs(moves_harmless(machine=TURNS, places=FAR, moves=[["swap", 4, 6, 10 ** 17, 8]]), True)
        self.assertIs(moves_harmless(TURNS, FAR, [("swap", 4, 6, 10 ** 17, 7)]), False)
        self.assertIs(moves_harmless(TURNS, FAR, [("reverse", 1, FAR - 1)]), True)
        self.assertIs(moves_harmless(TURNS, FAR, [("reverse", 0, FAR)]), False)
        self.assertIs(moves_harmless(NONE, FAR, [("reverse", 0, 1)]), True)
        self.assertIs(moves_harmless(NONE, 1, []), True)
        self.assertIs(moves_harmless(NONE, FAR, [("reverse", 0, 2)]), False)
        framed = brute.beside(brute.first_memory(2), brute.last_memory(3), brute.wheel(4))
        self.assertIs(moves_harmless(framed, FAR, [("deal", 1, 5, 5)]), True)
        self.assertIs(moves_harmless(framed, FAR, [("deal", 0, 5, 5)]), False)
        self.assertIs(moves_harmless(framed, FAR, [("deal", FAR - 27, 5, 5)]), True)
        self.assertIs(moves_harmless(framed, FAR, [("deal", FAR - 26, 5, 5)]), False)

    def test_errors_in_order(self):
        self.raises_at(Refused, 5000, moves_harmless, BEYOND, 5, None)
        self.raises_at(InvalidMove, 0, moves_harmless, TURNS, 1, None)
        self.raises_at(InvalidMove, 1, moves_harmless, TURNS, 1, [("turn", 0, 1, 0), ("turn", 0, 2, 0)])
        self.raises_at(Refused, 1, moves_harmless, TURNS, 2, [("turn", 0, 1, 0), ("deal", 0, 1, 1)])
        self.raises_at(Refused, 3, moves_harmless, TURNS, 2, [("deal", 0, 1, 1)])
        self.raises_at(Refused, 3, moves_harmless, TURNS, 1, [])
        self.assertIs(moves_harmless(TURNS, 3, []), True)

    def test_nothing_is_changed(self):
        moves = [["turn", 0, 4, 1]]
        for function in (pieces, moves_frame):
            function(4, moves)
        wrong_place((0, 0, 1), 4, moves)
        moves_harmless(TURNS, 4, moves)
        self.assertEqual(moves, [["turn", 0, 4, 1]])
