"""Points 48 and 49: moves, and where entries go."""

from math import gcd
from random import Random

from endsandround.errors import InvalidMove, Refused
from endsandround.moves import checked_moves, inverse, place_after, spread, undoing
from endsandround.stretches import moves_frame, moves_harmless, pieces, wrong_place
from tests import brute
from tests.checks import Case, Odd

NAMES = ("swap", "turn", "reverse", "deal", "stride")
FAR = 10 ** 18


def stretch_length(move):
    name, _, *told = move
    if name == "swap":
        return sum(told)
    return told[0] * told[1] if name == "deal" else told[0]


def is_move(places, move):
    """Whether what has a name and numbers is a move, by what the document says."""
    name, at, *told = move
    if name == "swap" and (told[0] < 1 or told[2] < 1):
        return False
    if name == "deal" and (told[0] < 1 or told[1] < 1):
        return False
    if name in ("turn", "reverse", "stride") and told[0] < 1:
        return False
    if name == "stride" and gcd(told[0], told[1]) != 1:
        return False
    return at + stretch_length(move) <= places


def random_move(random, places, names=NAMES):
    """Some move of so many places, of some of these names."""
    while True:
        name = random.choice(names)
        top = random.choice((3, places))
        numbers = [random.randrange(places)]
        numbers += [random.randrange(top + 1) for _ in range({"swap": 3, "reverse": 1}.get(name, 2))]
        if is_move(places, (name, *numbers)):
            return (name, *numbers)


def slow_place(move, place):
    """Where one move leads a place, as the document says."""
    name, at, *told = move
    many = stretch_length(move)
    if not at <= place < at + many:
        return place
    entries = list(range(many))
    i = place - at
    if name == "swap":
        u, w, _ = told
        new = entries[u + w:] + entries[u:u + w] + entries[:u]
        return at + new.index(i)
    if name == "turn":
        return at + (i + told[1]) % many
    if name == "reverse":
        return at + many - 1 - i
    if name == "deal":
        r, c = told
        return at + [j * r + k for k in range(r) for j in range(c)][i]
    return at + i * told[1] % many


def slow_spread(places, moves):
    found = []
    for place in range(places):
        for move in moves:
            place = slow_place(move, place)
        found.append(place)
    return tuple(found)


# Values that are no moves of ten places.
WRONG_MOVES = (
    None, 3, "turn", (), [], ("turn",), ("turn", 0), ("turn", 0, 3), ("turn", 0, 3, 1, 1), ("reverse", 0), ("swap", 0, 1, 1),
    ("swap", 0, 0, 1, 1), ("swap", 0, 1, 1, 0), ("swap", 0, 5, 1, 5), ("swap", 10, 1, 0, 1), ("swap", 0, 1, -1, 1),
    ("turn", 0, 0, 0), ("turn", 0, 11, 0), ("turn", 10, 1, 0), ("turn", 0, 3, -1), ("turn", -1, 3, 1), ("turn", 8, 3, 1),
    ("reverse", 0, 0), ("reverse", 9, 2), ("reverse", 10, 1), ("reverse", 0, 3, 1), ("deal", 0, 0, 3), ("deal", 0, 3, 0),
    ("deal", 0, 2, 6), ("deal", 7, 2, 2), ("deal", 0, 11, 1), ("stride", 0, 0, 1), ("stride", 0, 4, 2), ("stride", 0, 9, 3),
    ("stride", 0, 2, 0), ("stride", 0, 11, 2), ("stride", 7, 4, 3), ("stride", 0, 5, 5), ("Turn", 0, 3, 1), ("", 0, 3, 1),
    ("turns", 0, 3, 1), (b"turn", 0, 3, 1), (None, 0, 3, 1), (["turn"], 0, 3, 1), (Odd(), 0, 3, 1), (0, "turn", 3, 1),
    ("turn", None, 3, 1), ("turn", 0, "3", 1), ("turn", 0, 3, 1.0), ("turn", 0, True, 1), ("turn", False, 3, 1),
    ("turn", 0, 3, True), ("turn", 0, Odd(), 1), {"turn": 0}, Odd(), ("turn", 10 ** 30, 1, 0), ("turn", 0, 10 ** 30, 0),
)


class CheckedTest(Case):
    def test_moves(self):
        first = ["turn", 0, 3, 1]
        value = [first, ("swap", 1, 2, 0, 3), ["deal", 0, 2, 5], ("stride", 0, 1, 0), ("reverse", 9, 1)]
        told = checked_moves(places=10, value=value)
        first[1] = 9
        value.append(None)
        self.assertEqual(told[0], ("turn", 0, 3, 1))
        self.assertEqual(len(told), 5)
        self.is_all_tuples(told)
        self.assertEqual(checked_moves(1, ()), ())
        self.assertEqual(checked_moves(5, [("turn", 0, 5, 10 ** 40), ("stride", 0, 5, 5 * 10 ** 40 + 2)])[0][3], 10 ** 40)

    def test_as_the_document_says(self):
        random = Random(481)
        met = {}
        for _ in range(4000):
            name = random.choice(NAMES)
            numbers = [random.randrange(9) for _ in range({"swap": 4, "reverse": 2}.get(name, 3))]
            move = (name, *numbers)
            good = is_move(10, move)
            met[name, good] = True
            if good:
                self.assertEqual(checked_moves(10, [move]), (move,))
            else:
                self.raises_at(InvalidMove, 0, checked_moves, 10, [move])
        self.assertEqual(len(met), 10)

    def test_wrong_moves(self):
        good = ("turn", 0, 10, 3)
        for value in WRONG_MOVES:
            self.raises_at(InvalidMove, 0, checked_moves, 10, [value])
            self.raises_at(InvalidMove, 2, checked_moves, 10, (good, list(good), value, None))
            for function in (spread, undoing, pieces, moves_frame):
                self.raises_at(InvalidMove, 1, function, 10, [("deal", 0, 2, 2), value])
            self.raises_at(InvalidMove, 1, place_after, 10, [("deal", 0, 2, 2), value], None)
            self.raises_at(InvalidMove, 1, wrong_place, (0, 0, 1), 10, [("deal", 0, 2, 2), value])

    def test_what_is_no_sequence(self):
        for value in (None, 3, "turn", {0: ("turn", 0, 3, 1)}, Odd(), b"", {("turn", 0, 3, 1)}):
            self.raises_at(InvalidMove, 0, checked_moves, 10, value)
            self.raises_at(InvalidMove, 0, place_after, 10, value, 0)
            for function in (spread, undoing, pieces, moves_frame):
                self.raises_at(InvalidMove, 0, function, 10, value)

    def test_a_move_is_no_sequence_of_moves(self):
        self.raises_at(InvalidMove, 0, checked_moves, 10, ("turn", 0, 3, 1))

    def test_far_places(self):
        for move in (("turn", FAR - 1, 1, 0), ("swap", 0, FAR - 1, 0, 1), ("deal", 0, 10 ** 9, 10 ** 9),
                     ("stride", 0, FAR, 7), ("reverse", 0, FAR)):
            self.assertEqual(checked_moves(FAR, [move]), (move,))
            self.raises_at(InvalidMove, 0, checked_moves, FAR - 1, [move])


class PlacesTest(Case):
    def test_as_the_document_says(self):
        random = Random(491)
        for _ in range(1500):
            places = random.randrange(1, 15)
            moves = [random_move(random, places) for _ in range(random.randrange(5))]
            wanted = slow_spread(places, moves)
            self.assertEqual(spread(places, moves), wanted)
            self.assertEqual(tuple(place_after(places, moves, place) for place in range(places)), wanted)

    def test_undoing(self):
        random = Random(492)
        for _ in range(1500):
            places = random.randrange(1, 15)
            moves = [random_move(random, places) for _ in range(random.randrange(5))]
            told = undoing(places, moves)
            self.is_all_tuples(told)
            self.assertEqual(checked_moves(places, told), told)
            self.assertEqual(slow_spread(places, (*moves, *told)), tuple(range(places)))
            for one, other in zip(moves, told[::-1]):
                self.assertEqual(other[:2], one[:2])
                if one[0] in ("turn", "stride"):
                    self.assertEqual(other[2], one[2])
                    least = min(
                        n for n in range(one[2])
                        if slow_spread(places, (one, (one[0], one[1], one[2], n))) == tuple(range(places))
                    )
                    self.assertEqual(other[3], least)
                elif one[0] == "swap":
                    self.assertEqual(other[2:], one[2:][::-1])
                elif one[0] == "deal":
                    self.assertEqual(other[2:], one[2:][::-1])
                else:
                    self.assertEqual(other, one)

    def test_told(self):
        moves = [["swap", 0, 1, 1, 2], ["turn", 1, 3, 1]]
        self.assertEqual(spread(places=5, moves=moves), (1, 3, 0, 2, 4))
        self.assertEqual(place_after(places=5, moves=moves, place=0), 1)
        self.assertEqual(undoing(places=5, moves=moves), (("turn", 1, 3, 2), ("swap", 0, 2, 1, 1)))
        self.assertEqual(undoing(9, [("turn", 0, 4, 8), ("stride", 0, 7, 3), ("stride", 2, 1, 5), ("deal", 0, 2, 3)]),
                         (("deal", 0, 3, 2), ("stride", 2, 1, 0), ("stride", 0, 7, 5), ("turn", 0, 4, 0)))
        self.assertEqual(spread(3, ()), (0, 1, 2))
        self.assertEqual(undoing(3, ()), ())
        self.is_all_tuples(spread(5, moves))
        self.assertEqual(moves, [["swap", 0, 1, 1, 2], ["turn", 1, 3, 1]])

    def test_what_is_no_place(self):
        for value in (-1, 5, FAR, None, "0", 0.0, True, False, (0,), Odd()):
            self.raises_at(Refused, 0, place_after, 5, [("reverse", 0, 2)], value)

    def test_far_places(self):
        random = Random(493)
        names = [random_move(random, FAR) for _ in range(30)]
        moves = [*names, ("deal", 3, 10 ** 9, 10 ** 9 - 1), ("stride", 0, FAR, 3 ** 30), ("turn", 5, FAR - 5, FAR - 7)]
        for place in (0, 1, 5, 10 ** 9, FAR // 2, FAR - 1):
            there = place_after(FAR, moves, place)
            self.assertEqual(place_after(FAR, undoing(FAR, moves), there), place)
            self.assertEqual(place_after(FAR, [*moves, *undoing(FAR, moves)], place), place)
        self.assertEqual(place_after(FAR, [("deal", 0, 10 ** 9, 10 ** 9)], 1), 10 ** 9)
        self.assertEqual(place_after(FAR, [("swap", 0, 1, FAR - 2, 1)], 0), FAR - 1)

    def test_10000_moves(self):
        random = Random(494)
        moves = [random_move(random, 40) for _ in range(10000)]
        told = spread(40, moves)
        for place in (0, 17, 39):
            self.assertEqual(place_after(40, moves, place), told[place])
        self.assertEqual(spread(40, [*moves[:5000], *undoing(40, moves[:5000])]), tuple(range(40)))

    def test_10000_places(self):
        random = Random(495)
        moves = [random_move(random, 10000) for _ in range(40)]
        moves += [("deal", 0, 100, 100), ("stride", 0, 10000, 77), ("reverse", 0, 10000), ("swap", 0, 1, 9998, 1)]
        told = spread(10000, moves)
        for place in (0, 1, 4999, 9999):
            self.assertEqual(told[place], place_after(10000, moves, place))

    def test_inverse(self):
        for many in range(1, 60):
            for factor in range(2 * many):
                if gcd(many, factor) == 1:
                    self.assertEqual(inverse(many, factor) * factor % many, 1 % many)
                    self.assertTrue(0 <= inverse(many, factor) < many)
