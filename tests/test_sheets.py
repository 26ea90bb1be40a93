"""Point 77: sheets."""

from random import Random

from endsandround.alike import are_alike
from endsandround.allowing import is_allowed
from endsandround.corners import is_corner_paper
from endsandround.court import is_court_paper, numbers
from endsandround.errors import InvalidQuestion, InvalidReordering, InvalidRow, InvalidTriple, Refused
from endsandround.judge import is_harm
from endsandround.machines import Machine
from endsandround.sheets import sheet, sheet_holds, wrong_sheets
from endsandround.telling import is_telling
from tests import brute
from tests.checks import WRONG_NUMBER_ROWS, WRONG_REORDERINGS, WRONG_TRIPLES, Case, Odd

TURNS = Machine(2, [(1, 0), (0, 2), (2, 1)])
BEYOND = brute.beside(*[brute.wheel(step) for step in (2, 3, 5, 7, 11, 13)])
CHECKERS = {"court": is_court_paper, "corners": is_corner_paper, "harm": is_harm, "telling": is_telling}
WRONG_KINDS = (None, 3, "", "Court", "courts", "paper", ("court",), ["court"], {}, Odd(), b"court", True)


def sheets():
    """Questions of all kinds."""
    random = Random(771)
    for machine in (*brute.near_machines(772, 15), *brute.random_machines(773, 10), TURNS):
        yield "court", (machine,)
        yield "corners", (machine, random.choice((1, 2, 3, 7)))
        many = random.randrange(2, 7)
        for places in (tuple(random.sample(range(many), many)), random.sample(range(many), many)):
            if not is_allowed(numbers(machine), places):
                yield "harm", (machine, places)
    for _ in range(25):
        triple = [random.randrange(3), random.randrange(3), random.randrange(1, 4)]
        one, other = ([random.randrange(3) for _ in range(random.choice((5, 6)))] for _ in range(2))
        if not are_alike(triple, one, other):
            kinds = [random.choice((list, tuple)) for _ in range(3)]
            yield "telling", tuple(kind(part) for kind, part in zip(kinds, (triple, one, other)))


class SheetTest(Case):
    def test_sheets_hold(self):
        seen = {}
        for kind, question in sheets():
            found = sheet(kind, question)
            self.assertEqual((type(found), len(found)), (tuple, 3))
            self.assertEqual(found[:2], (kind, question))
            self.assertIs(CHECKERS[kind](*question, found[2]), True)
            self.assertIs(sheet_holds(found), True)
            self.assertEqual([type(part) for part in found[1]], [type(part) for part in question])
            seen[kind] = seen.get(kind, 0) + 1
        self.assertEqual(set(seen), set(CHECKERS))
        self.assertGreater(min(seen.values()), 10)

    def test_told(self):
        self.assertEqual(sheet(kind="court", question=(TURNS,))[1], (TURNS,))
        self.assertIs(sheet_holds(value=sheet("corners", (TURNS, 5000))), True)
        self.assertEqual(wrong_sheets(values=[]), ())

    def test_lists_are_copied(self):
        reordering = [1, 0, 2]
        found = sheet("harm", (TURNS, reordering))
        self.assertIsNot(found[1][1], reordering)
        reordering[:] = [2, 1, 0]
        self.assertEqual(found[1], (TURNS, [1, 0, 2]))
        self.assertIs(sheet_holds(found), True)
        parts = ([0, 0, 2], [0, 1, 1], [1, 1, 1])
        found = sheet("telling", parts)
        self.assertEqual(parts, ([0, 0, 2], [0, 1, 1], [1, 1, 1]))
        for part in parts:
            part.clear()
        self.assertEqual(found[1], ([0, 0, 2], [0, 1, 1], [1, 1, 1]))

    def test_wrong_kinds(self):
        for kind in WRONG_KINDS:
            self.raises_at(Refused, 0, sheet, kind, (TURNS,))
            self.raises_at(Refused, 0, sheet, kind, None)
            self.assertIs(sheet_holds((kind, (TURNS,), sheet("court", (TURNS,))[2])), False)

    def test_wrong_questions(self):
        for kind, question in (
            ("court", None), ("court", TURNS), ("court", ()), ("court", [TURNS]), ("court", (TURNS, 1)),
            ("court", (None,)), ("court", (Odd(),)), ("court", "x"), ("corners", (TURNS,)), ("corners", (TURNS, 0)),
            ("corners", (TURNS, 5001)), ("corners", (TURNS, -1)), ("corners", (TURNS, True)), ("corners", (TURNS, None)),
            ("corners", (TURNS, 1.0)), ("corners", (1, TURNS)), ("corners", [TURNS, 1]), ("corners", (TURNS, 1, 1)),
            ("corners", (TURNS, Odd())), ("harm", (TURNS,)), ("harm", (None, (1, 0))), ("harm", [TURNS, (1, 0)]),
            ("harm", (TURNS, (1, 0), 0)), ("harm", Odd()), ("telling", ((0, 0, 1), (0,))), ("telling", ()),
            ("telling", [(0, 0, 1), (0,), (1,)]), ("telling", ((0, 0, 1), (0,), (1,), (2,))), ("telling", None),
        ):
            self.raises_at(Refused, 1, sheet, kind, question)
            self.assertIs(sheet_holds((kind, question, ())), False)

    def test_errors_of_the_functions(self):
        self.raises_at(Refused, 5000, sheet, "court", (BEYOND,))
        self.raises_at(Refused, 5000, sheet, "harm", (BEYOND, (1, 0)))
        self.raises_at(Refused, 0, sheet, "harm", (TURNS, (2, 1, 0)))
        for value, at in WRONG_REORDERINGS:
            self.raises_at(InvalidReordering, at, sheet, "harm", (TURNS, value))
        for value, at in WRONG_TRIPLES:
            self.raises_at(InvalidTriple, at, sheet, "telling", (value, None, None))
        for value, at in WRONG_NUMBER_ROWS:
            self.raises_at(InvalidRow, at, sheet, "telling", ((0, 0, 1), value, None))
            self.raises_at(InvalidRow, at, sheet, "telling", ((0, 0, 1), (0,), value))
        self.raises_at(Refused, 0, sheet, "telling", ((0, 0, 1), (0, 1), (1, 0)))


class HoldsTest(Case):
    def test_no_sheets(self):
        for value in (None, 3, "court", (), ("court",), ("court", (TURNS,)), Odd(), {}, [1, 2, 3]):
            self.assertIs(sheet_holds(value), False)
        kind, question, shown = sheet("court", (TURNS,))
        for value in ([kind, question, shown], (kind, list(question), shown), (kind, question, list(shown)),
                      (kind, question, None), (kind, question, shown, shown), ("corners", question, shown),
                      (kind, (Machine(2, brute.wheel(3)),), shown), (kind, question, Odd()), (Odd(), question, shown),
                      (kind, Odd(), shown), (kind, (BEYOND,), shown)):
            self.assertIs(sheet_holds(value), False)
        self.assertIs(sheet_holds((kind, question, shown)), True)

    def test_lists_in_questions(self):
        _, _, shown = sheet("harm", (TURNS, (1, 0)))
        self.assertIs(sheet_holds(("harm", (TURNS, [1, 0]), shown)), True)
        self.assertIs(sheet_holds(("harm", (TURNS, [1, 0]), list(shown))), False)
        for value, _ in WRONG_REORDERINGS:
            self.assertIs(sheet_holds(("harm", (TURNS, value), shown)), False)
        _, _, shown = sheet("telling", ((0, 0, 1), (0, 1), (1, 1)))
        self.assertIs(sheet_holds(("telling", ([0, 0, 1], [0, 1], (1, 1)), shown)), True)
        for triple, one, other in (((0, 0, 0), (0, 1), (1, 1)), ((0, 0, 1), (0, -1), (1, 1)), ((0, 0, 1), (0, 1), None),
                                   ((0, 0, 1), (1, 1), (1, 1)), (Odd(), (0, 1), (1, 1))):
            self.assertIs(sheet_holds(("telling", (triple, one, other), shown)), False)

    def test_wrong_sheets(self):
        good = [sheet(kind, question) for kind, question in list(sheets())[:9]]
        self.assertEqual(wrong_sheets(good), ())
        mixed = [None, *good[:3], (), good[3], ("court", (TURNS,), None), Odd()]
        self.assertEqual(wrong_sheets(mixed), (0, 4, 6, 7))
        self.assertEqual(wrong_sheets(tuple(mixed)), (0, 4, 6, 7))
        for value in (None, 3, "court", {}, Odd(), range(3), b"", {1}):
            self.raises_at(InvalidQuestion, 0, wrong_sheets, value)
