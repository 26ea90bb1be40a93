"""Points 1 to 3 over the whole program: arguments by their names, in any order; what is handed in stays as it was."""

import importlib
import inspect
from copy import deepcopy

from endsandround import errors
from endsandround.claims import Claims
from endsandround.corners import corner_paper
from endsandround.court import court_paper, exchange_harm
from endsandround.exactly import inexact_harm
from endsandround.desk import Desk
from endsandround.judge import built_harm
from endsandround.logs import Log
from endsandround.machines import Machine
from endsandround.omissionpapers import omission_paper
from endsandround.omissions import omission_harm
from endsandround.questions import Question
from endsandround.sheets import sheet
from endsandround.slips import slip
from endsandround.sparse import sparse_harm
from endsandround.sure import refutation
from endsandround.teaching import teaching
from endsandround.telling import telling_machine
from tests import brute
from tests.checks import Case
from tests.test_interface import INTERFACE

TURNS = Machine(2, [(1, 0), (0, 2), (2, 1)])
LAST = Machine(2, [(0, 1), (0, 1)])
SHORT = Machine(2, [(1, 2), (2, 3), (2, 2), (2, 2)])
UNLIKE = Machine(2, [(1, 1), (2, 0), (0, 2)])
WHEEL = Machine(2, brute.wheel(2))
ASKED = Question(TURNS, 0, [0, 1, 1])
OTHER = Question(TURNS, 1, [0, 0, 1])
TOLD = Claims(2, [[2, 1, 0]])
FOUND = [([2, 1, 0], True), ([1, 0], False)]
AGAINST = [([2, 1, 0], True), ([0, 3, 2, 1], False)]
OPEN = [([4, 1, 2, 3, 0], True)]
ROW = [0, 1, 1, 0, 1]
MOVED = [1, 1, 0, 0, 1]
MOVES = [["swap", 0, 1, 1, 2], ["reverse", 1, 3], ["turn", 0, 5, 2]]

# One call of each function and class, the arguments in their order; also lists where any values are taken.
CALLS = {
    "machines": {
        "Machine": (2, [[1, 0], [0, 0]]), "checked_row": (2, ROW), "end_state": (TURNS, 1, ROW), "effect": (TURNS, ROW),
        "followed": ((1, 0, 2), (2, 2, 0)), "effects_of_length": (TURNS, 3), "row_for": (TURNS, (0, 2, 1)),
        "reached": (TURNS, 1), "reaching_row": (TURNS, 0, 2),
    },
    "reorderings": {
        "is_reordering": ((1, 0),), "checked_reordering": ([1, 0],), "idle": (3,), "exchange": (4, 1, 3),
        "reordered": (ROW, [1, 0, 2, 4, 3]), "after": ([1, 2, 0], [0, 2, 1]), "back": ([1, 2, 0],),
        "shifted": ([1, 0], 2, 1), "rings": ([1, 2, 0],), "frame": ([0, 3, 2, 1],), "three_ring": ([2, 1, 0],),
    },
    "questions": {
        "Question": (TURNS, 1, [0, 5, 1]), "answer": (ASKED, ROW), "parting_row": (ASKED, 1, 2),
        "least_question": (ASKED,), "unlike_row": (ASKED, OTHER), "surroundings": (ASKED, [0, 1], [1, 0]),
    },
    "machinetexts": {"machine_text": (TURNS,), "read_machine": ("machine 1 2\n1\n0",)},
    "layers": {
        "behind": (SHORT, 1), "settled_behind": (SHORT,), "joined": (SHORT, 1), "settled_joined": (SHORT,),
        "keeping_row": (TURNS, 0, 2, 5),
    },
    "gaps": {"gap_pairs": (TURNS, 1, 0, 1, 2), "rounds": (TURNS,)},
    "court": {
        "may_exchange": (LAST, 2, 1, 0), "exchange_harm": (LAST, 2, 1, 0),
        "is_exchange_harm": (LAST, 2, 1, 0, exchange_harm(LAST, 2, 1, 0)), "numbers": (TURNS,), "court_paper": (TURNS,),
        "is_court_paper": (TURNS, court_paper(TURNS)),
    },
    "corners": {
        "corners": (SHORT, 1), "left_out": (SHORT, 1), "corner_paper": (SHORT, 1),
        "is_corner_paper": (SHORT, 1, corner_paper(SHORT, 1)),
    },
    "exactly": {
        "is_exact": (SHORT, 2), "exact_from": (SHORT,), "inexact_lengths": (SHORT,), "inexact_harm": (SHORT, 2),
        "is_inexact_harm": (SHORT, 2, inexact_harm(SHORT, 2)),
    },
    "links": {"links": (TURNS, 4), "sure_count": (TURNS, 4), "harmless_count": (TURNS, 4)},
    "cuts": {"open_entries": ([2, 1, 0], 1), "width": ([2, 1, 0],), "walked_harm": (TURNS, [1, 0, 2])},
    "allowing": {"is_allowed": ((0, 0, 2), [2, 1, 0])},
    "judge": {
        "is_harm": (TURNS, [1, 0, 2], built_harm(TURNS, [1, 0, 2])), "built_harm": (TURNS, [1, 0, 2]),
        "harm": (TURNS, [1, 0, 2]), "harmless_all": (TURNS, 3),
    },
    "reversible": {
        "is_reversible": (TURNS,), "undone": (TURNS,), "order_of": (TURNS, 1), "repeated": (TURNS, 1, -3),
        "shift": (TURNS, 0, 1, 2), "free_step": (TURNS, 1), "clash": (UNLIKE, 0), "reversible_numbers": (TURNS, 1),
    },
    "sparse": {
        "is_sparse_harm": (TURNS, 1, [1, 0, 2], sparse_harm(TURNS, 1, [1, 0, 2])), "sparse_harm": (TURNS, 1, [1, 0, 2]),
    },
    "counts": {"row_counts": (WHEEL, 1, ROW), "effect_of_counts": (WHEEL, 1, [[2, 1], [0, 2]])},
    "triples": {"is_triple": ((0, 1, 2),), "checked_triple": ([0, 1, 2],), "bags": ([0, 1, 2], 6)},
    "alike": {
        "are_alike": ([0, 0, 2], ROW, MOVED), "unlikeness": ([1, 0, 2], ROW, MOVED), "leading": ([0, 0, 2], ROW, MOVED),
        "leading_count": ([0, 0, 2], ROW, MOVED),
    },
    "normal": {
        "normal_row": ([0, 0, 2], ROW), "alike_count": ([0, 0, 2], ROW), "alike_at": ([0, 0, 2], ROW, 2),
        "alike_index": ([0, 0, 2], ROW),
    },
    "exchanges": {
        "exchange_count": ([0, 0, 2], ROW, MOVED), "fewest_exchanges": ([0, 0, 2], ROW, MOVED),
        "greatest_count": ([0, 0, 2], ROW),
    },
    "telling": {
        "telling_machine": ([0, 2, 2], ROW, [1, 0, 0, 0, 1]),
        "is_telling": ([0, 2, 2], ROW, [1, 0, 0, 0, 1], telling_machine([0, 2, 2], ROW, [1, 0, 0, 0, 1])),
    },
    "claims": {"Claims": (2, [[1, 0], (0,)]), "broken": (TOLD, LAST), "shown_numbers": (TOLD,)},
    "rowlots": {"row_lot": (TOLD, ROW), "row_path": (TOLD, ROW, MOVED), "lot_machine": (TOLD, 3)},
    "ties": {"knots": (TOLD, 6), "is_full": (TOLD, 6), "full_from": (TOLD,)},
    "sure": {
        "is_sure": (TOLD, [0, 3, 2, 1]), "refutation": (TOLD, [1, 0]),
        "is_refutation": (TOLD, [1, 0], refutation(TOLD, [1, 0])),
    },
    "findings": {
        "checked_findings": (FOUND,), "agrees": ([0, 0, 2], FOUND), "widest": (FOUND,), "clash": (AGAINST,),
        "is_clash": (AGAINST, (0, 1)),
    },
    "leftover": {
        "triples_left": (OPEN,), "left_count": (OPEN,), "pinned": (FOUND,), "split": (OPEN, [2, 1, 0]),
        "next_reordering": (OPEN,),
    },
    "teaching": {
        "teaching": ([1, 0, 2],), "teaching_count": ([1, 0, 2],), "is_teaching": ([1, 0, 2], teaching((1, 0, 2))),
    },
    "moves": {
        "checked_moves": (9, MOVES), "place_after": (9, MOVES, 3), "spread": (9, MOVES), "undoing": (9, MOVES),
    },
    "stretches": {
        "pieces": (9, MOVES), "moves_frame": (9, MOVES), "wrong_place": ((0, 0, 2), 9, MOVES),
        "moves_harmless": (TURNS, 9, MOVES),
    },
    "pasting": {"pasted": ((1, 0, 1), [0, 3, 2, 1])},
    "rowkinds": {"kind_count": ([1, 0, 2], 2, 6), "most_alike": ([1, 0, 2], 2, 6)},
    "ranks": {"kind_at": ([1, 0, 2], 2, 6, 5), "kind_index": ([1, 0, 2], 2, ROW)},
    "growth": {"growth": ([1, 0, 2], 3), "told_by": ([1, 2, 4, 8, 12, 18, 24],)},
    "freest": {"free_machine": ([1, 0, 2], 2, 5)},
    "effectcounts": {"effect_counts": (TURNS, 5), "free_length": (TURNS,), "merged_rows": (TURNS, 6)},
    "omissions": {
        "checked_omission": ([0, 1],), "omitted": (ROW, [0, 1, 0, 0, 1]), "then_omitted": ([0, 1, 0], [0, 1]),
        "omission_harm": (LAST, [0, 0, 1]), "is_omission_harm": (LAST, [0, 1], omission_harm(LAST, [0, 1])),
        "is_allowed_omission": ((0, 1, 1), [0, 1]),
    },
    "slips": {"never_counts": (LAST, 2, 1), "slip": (LAST, 2, 0), "is_slip": (LAST, 2, 0, slip(LAST, 2, 0))},
    "omissioncourt": {"may_omit": (LAST, 1, 2, 0), "omission_numbers": (LAST,)},
    "omissionpapers": {"omission_paper": (LAST,), "is_omission_paper": (LAST, omission_paper(LAST))},
    "shortening": {"shortened": (LAST, ROW), "effect_by_ends": (LAST, [], 10 ** 18, [1])},
    "sides": {
        "side_by_side": (TURNS, LAST), "combined": ((2, 0, 4), (0, 1, 6)), "taking_turns": (TURNS, LAST),
        "go_together": (TURNS,),
    },
    "macros": {"with_macros": (TURNS, [[0, 1], [1]]), "macro_triple": ((3, 1, 12), 2)},
    "views": {
        "is_view": (WHEEL, (0, 0, 2, 2)), "viewed": (WHEEL, (5, 5, 2, 2)), "merging_view": (WHEEL, 0, 1),
        "split_views": (Machine(2, [(0, 0), (1, 1), (2, 2)]),), "part": (SHORT, 1),
    },
    "ends": {"mirrored": (LAST,), "delayed": (TURNS, 1)},
    "builders": {
        "first_memory": (2,), "last_memory": (3,), "wheel": (2,), "built": ([1, 2, 3],), "state_bound": ([1, 2, 3],),
    },
    "mending": {
        "without": (TURNS, (0,)), "serves": ((0, 0, 1), (0, 1, 2)), "is_mended": (TURNS, (0, 0, 1), (0,)),
        "least_mends": (TURNS, (0, 0, 1)), "reasons": (TURNS, (0, 0, 1), (0,)),
    },
    "logs": {"Log": (TURNS, 1)},
    "sheets": {
        "sheet_holds": (("harm", (TURNS, [1, 0]), built_harm(TURNS, [1, 0])),), "sheet": ("harm", (TURNS, [1, 0])),
        "wrong_sheets": ([sheet("court", (TURNS,)), None],),
    },
    "desk": {"Desk": ()},
}

METHODS = {
    "enter": (1,), "reorder": (1, [1, 0]), "never_matters": (0, [2, 1, 0]), "within": (lambda log: log.row(),),
    "entered": (), "row": (), "state": (), "way": (), "drifted": (), "undo": (),
}


def shown(value):
    """What can be compared of what is returned."""
    if isinstance(value, Log):
        return value.machine, value.start, value.entered(), value.row()
    if isinstance(value, Desk):
        return value.log
    return value


class ByNameTest(Case):
    def test_all_functions_are_called(self):
        for module, names in INTERFACE.items():
            if module != "errors":
                self.assertEqual(set(CALLS[module]), set(names), module)

    def test_functions_and_classes(self):
        for module_name, calls in CALLS.items():
            module = importlib.import_module(f"endsandround.{module_name}")
            for name, arguments in calls.items():
                with self.subTest(module=module_name, name=name):
                    function = getattr(module, name)
                    self.assertEqual(function.__module__, module.__name__)
                    names = INTERFACE[module_name][name]
                    self.assertEqual(len(names), len(arguments))
                    before = deepcopy(arguments)
                    wanted = shown(function(*arguments))
                    self.assertEqual(arguments, before)
                    named = dict(reversed(list(zip(names, arguments))))
                    self.assertEqual(shown(function(**named)), wanted)
                    self.assertEqual(arguments, before)

    def test_each_tells_something(self):
        empty = []
        for module_name, calls in CALLS.items():
            module = importlib.import_module(f"endsandround.{module_name}")
            for name, arguments in calls.items():
                if shown(getattr(module, name)(*arguments)) is None:
                    empty.append(name)
        self.assertEqual(empty, ["Desk"])

    def test_methods(self):
        for name, arguments in METHODS.items():
            ways = []
            for by_name in (False, True):
                log = Log(TURNS, 0)
                for command in (1, 0, 0, 1):
                    log.enter(command)
                method = getattr(log, name)
                names = tuple(inspect.signature(method).parameters)
                self.assertEqual(len(names), len(arguments))
                if by_name:
                    told = method(**dict(reversed(list(zip(names, arguments)))))
                else:
                    told = method(*arguments)
                ways.append((told, log.entered(), log.row(), len(log)))
            self.assertEqual(ways[0], ways[1], name)
        self.assertEqual(tuple(inspect.signature(Log.reorder).parameters), ("self", "at", "reordering"))
        self.assertEqual(tuple(inspect.signature(Log.never_matters).parameters), ("self", "at", "reordering"))
        self.assertEqual(tuple(inspect.signature(Log.enter).parameters), ("self", "command"))
        self.assertEqual(tuple(inspect.signature(Log.within).parameters), ("self", "work"))
        self.assertEqual(tuple(inspect.signature(Desk.say).parameters), ("self", "command"))

    def test_errors(self):
        for name, names in INTERFACE["errors"].items():
            found = getattr(errors, name)
            if names is not None:
                self.assertEqual(found(at=7).at, 7)
        self.assertIsInstance(errors.InvalidCommand(), errors.EndsError)

    def test_what_is_told_is_in_tuples(self):
        for module_name, calls in CALLS.items():
            module = importlib.import_module(f"endsandround.{module_name}")
            for name, arguments in calls.items():
                with self.subTest(module=module_name, name=name):
                    self.has_no_lists(getattr(module, name)(*arguments), name == "sheet")

    def has_no_lists(self, value, is_sheet):
        if isinstance(value, tuple):
            for part in value:
                if not (is_sheet and isinstance(part, list)):
                    self.has_no_lists(part, is_sheet)
        elif isinstance(value, (Machine, Question, Claims, Log, Desk)):
            for name, part in vars(value).items():
                if not name.startswith("_"):
                    self.has_no_lists(part, is_sheet)
        else:
            self.assertTrue(value is None or isinstance(value, (int, str)), repr(value))

    def test_nothing_equals_another_kind(self):
        for value in (TURNS, ASKED, TOLD, Log(TURNS, 0), Desk(), errors.Refused(0)):
            for other in (None, 0, (), "x", (2, TURNS.steps), [value], TURNS if value != TURNS else ASKED):
                self.assertFalse(value == other)
                self.assertTrue(value != other)
