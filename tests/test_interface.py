"""The interface: names, arguments, and where each of them is defined."""

import importlib
import inspect
import unittest

INTERFACE = {
    "errors": {
        "EndsError": None,
        "InvalidMachine": ("at",),
        "InvalidRow": ("at",),
        "InvalidReordering": ("at",),
        "InvalidQuestion": ("at",),
        "InvalidTriple": ("at",),
        "InvalidMove": ("at",),
        "InvalidText": ("at",),
        "NotReversible": ("at",),
        "Refused": ("at",),
        "InvalidCommand": None,
    },
    "machines": {
        "Machine": ("commands", "steps"),
        "checked_row": ("commands", "value"),
        "end_state": ("machine", "state", "row"),
        "effect": ("machine", "row"),
        "followed": ("one", "other"),
        "effects_of_length": ("machine", "length"),
        "row_for": ("machine", "wanted"),
        "reached": ("machine", "start"),
        "reaching_row": ("machine", "start", "state"),
    },
    "reorderings": {
        "is_reordering": ("value",),
        "checked_reordering": ("value",),
        "idle": ("many",),
        "exchange": ("many", "i", "j"),
        "reordered": ("row", "reordering"),
        "after": ("one", "other"),
        "back": ("reordering",),
        "shifted": ("reordering", "before", "behind"),
        "rings": ("reordering",),
        "frame": ("reordering",),
        "three_ring": ("reordering",),
    },
    "questions": {
        "Question": ("machine", "start", "answers"),
        "answer": ("question", "row"),
        "parting_row": ("question", "one", "other"),
        "least_question": ("question",),
        "unlike_row": ("one", "other"),
        "surroundings": ("question", "row", "other"),
    },
    "machinetexts": {
        "machine_text": ("machine",),
        "read_machine": ("text",),
    },
    "layers": {
        "behind": ("machine", "count"),
        "settled_behind": ("machine",),
        "joined": ("machine", "count"),
        "settled_joined": ("machine",),
        "keeping_row": ("machine", "one", "other", "count"),
    },
    "gaps": {
        "gap_pairs": ("machine", "before", "a", "c", "gap"),
        "rounds": ("machine",),
    },
    "court": {
        "may_exchange": ("machine", "before", "step", "after"),
        "exchange_harm": ("machine", "before", "step", "after"),
        "is_exchange_harm": ("machine", "before", "step", "after", "value"),
        "numbers": ("machine",),
        "court_paper": ("machine",),
        "is_court_paper": ("machine", "value"),
    },
    "corners": {
        "corners": ("machine", "distance"),
        "left_out": ("machine", "distance"),
        "corner_paper": ("machine", "distance"),
        "is_corner_paper": ("machine", "distance", "value"),
    },
    "exactly": {
        "is_exact": ("machine", "length"),
        "exact_from": ("machine",),
        "inexact_lengths": ("machine",),
        "inexact_harm": ("machine", "length"),
        "is_inexact_harm": ("machine", "length", "value"),
    },
    "links": {
        "links": ("machine", "length"),
        "sure_count": ("machine", "length"),
        "harmless_count": ("machine", "length"),
    },
    "cuts": {
        "open_entries": ("reordering", "cut"),
        "width": ("reordering",),
        "walked_harm": ("machine", "reordering"),
    },
    "allowing": {
        "is_allowed": ("triple", "reordering"),
    },
    "judge": {
        "is_harm": ("machine", "reordering", "value"),
        "built_harm": ("machine", "reordering"),
        "harm": ("machine", "reordering"),
        "harmless_all": ("machine", "places"),
    },
    "reversible": {
        "is_reversible": ("machine",),
        "undone": ("machine",),
        "order_of": ("machine", "command"),
        "repeated": ("machine", "command", "n"),
        "shift": ("machine", "base", "command", "i"),
        "free_step": ("machine", "base"),
        "clash": ("machine", "base"),
        "reversible_numbers": ("machine", "base"),
    },
    "sparse": {
        "is_sparse_harm": ("machine", "base", "reordering", "value"),
        "sparse_harm": ("machine", "base", "reordering"),
    },
    "counts": {
        "row_counts": ("machine", "base", "row"),
        "effect_of_counts": ("machine", "base", "counts"),
    },
    "triples": {
        "is_triple": ("value",),
        "checked_triple": ("value",),
        "bags": ("triple", "length"),
    },
    "alike": {
        "are_alike": ("triple", "one", "other"),
        "unlikeness": ("triple", "one", "other"),
        "leading": ("triple", "one", "other"),
        "leading_count": ("triple", "one", "other"),
    },
    "normal": {
        "normal_row": ("triple", "row"),
        "alike_count": ("triple", "row"),
        "alike_at": ("triple", "row", "at"),
        "alike_index": ("triple", "row"),
    },
    "exchanges": {
        "exchange_count": ("triple", "one", "other"),
        "fewest_exchanges": ("triple", "one", "other"),
        "greatest_count": ("triple", "row"),
    },
    "telling": {
        "telling_machine": ("triple", "one", "other"),
        "is_telling": ("triple", "one", "other", "value"),
    },
    "claims": {
        "Claims": ("commands", "reorderings"),
        "broken": ("claims", "machine"),
        "shown_numbers": ("claims",),
    },
    "rowlots": {
        "row_lot": ("claims", "row"),
        "row_path": ("claims", "row", "other"),
        "lot_machine": ("claims", "length"),
    },
    "ties": {
        "knots": ("claims", "length"),
        "is_full": ("claims", "length"),
        "full_from": ("claims",),
    },
    "sure": {
        "is_sure": ("claims", "reordering"),
        "refutation": ("claims", "reordering"),
        "is_refutation": ("claims", "reordering", "value"),
    },
    "findings": {
        "checked_findings": ("value",),
        "agrees": ("triple", "told"),
        "widest": ("told",),
        "clash": ("told",),
        "is_clash": ("told", "value"),
    },
    "leftover": {
        "triples_left": ("told",),
        "left_count": ("told",),
        "pinned": ("told",),
        "split": ("told", "reordering"),
        "next_reordering": ("told",),
    },
    "teaching": {
        "teaching": ("triple",),
        "teaching_count": ("triple",),
        "is_teaching": ("triple", "value"),
    },
    "moves": {
        "checked_moves": ("places", "value"),
        "place_after": ("places", "moves", "place"),
        "spread": ("places", "moves"),
        "undoing": ("places", "moves"),
    },
    "stretches": {
        "pieces": ("places", "moves"),
        "moves_frame": ("places", "moves"),
        "wrong_place": ("triple", "places", "moves"),
        "moves_harmless": ("machine", "places", "moves"),
    },
    "pasting": {
        "pasted": ("triple", "reordering"),
    },
    "rowkinds": {
        "kind_count": ("triple", "commands", "length"),
        "most_alike": ("triple", "commands", "length"),
    },
    "ranks": {
        "kind_at": ("triple", "commands", "length", "index"),
        "kind_index": ("triple", "commands", "row"),
    },
    "growth": {
        "growth": ("triple", "commands"),
        "told_by": ("counts",),
    },
    "freest": {
        "free_machine": ("triple", "commands", "length"),
    },
    "effectcounts": {
        "effect_counts": ("machine", "longest"),
        "free_length": ("machine",),
        "merged_rows": ("machine", "length"),
    },
    "omissions": {
        "checked_omission": ("value",),
        "omitted": ("row", "omission"),
        "then_omitted": ("one", "other"),
        "omission_harm": ("machine", "omission"),
        "is_omission_harm": ("machine", "omission", "value"),
        "is_allowed_omission": ("triple", "omission"),
    },
    "slips": {
        "never_counts": ("machine", "before", "after"),
        "slip": ("machine", "before", "after"),
        "is_slip": ("machine", "before", "after", "value"),
    },
    "omissioncourt": {
        "may_omit": ("machine", "before", "many", "after"),
        "omission_numbers": ("machine",),
    },
    "omissionpapers": {
        "omission_paper": ("machine",),
        "is_omission_paper": ("machine", "value"),
    },
    "shortening": {
        "shortened": ("machine", "row"),
        "effect_by_ends": ("machine", "beginning", "length", "end"),
    },
    "sides": {
        "side_by_side": ("one", "other"),
        "combined": ("one", "other"),
        "taking_turns": ("one", "other"),
        "go_together": ("machine",),
    },
    "macros": {
        "with_macros": ("machine", "rows"),
        "macro_triple": ("triple", "length"),
    },
    "views": {
        "is_view": ("machine", "value"),
        "viewed": ("machine", "view"),
        "merging_view": ("machine", "one", "other"),
        "split_views": ("machine",),
        "part": ("machine", "start"),
    },
    "ends": {
        "mirrored": ("machine",),
        "delayed": ("machine", "many"),
    },
    "builders": {
        "first_memory": ("first",),
        "last_memory": ("last",),
        "wheel": ("step",),
        "built": ("triple",),
        "state_bound": ("triple",),
    },
    "mending": {
        "without": ("machine", "barred"),
        "serves": ("triple", "wish"),
        "is_mended": ("machine", "wish", "barred"),
        "least_mends": ("machine", "wish"),
        "reasons": ("machine", "wish", "barred"),
    },
    "logs": {
        "Log": ("machine", "start"),
    },
    "sheets": {
        "sheet_holds": ("value",),
        "sheet": ("kind", "question"),
        "wrong_sheets": ("values",),
    },
    "desk": {
        "Desk": (),
    },
}


class InterfaceTest(unittest.TestCase):
    def test_names_and_arguments(self):
        for module_name, names in INTERFACE.items():
            module = importlib.import_module(f"endsandround.{module_name}")
            for name, arguments in names.items():
                with self.subTest(module=module_name, name=name):
                    found = getattr(module, name)
                    self.assertEqual(found.__module__, module.__name__)
                    if arguments is not None:
                        self.assertEqual(tuple(inspect.signature(found).parameters), arguments)

    def test_methods_stand_in_their_class(self):
        for module_name, name in (("machines", "Machine"), ("questions", "Question"), ("claims", "Claims")):
            found = getattr(importlib.import_module(f"endsandround.{module_name}"), name)
            self.assertIn("__eq__", vars(found))
        log = importlib.import_module("endsandround.logs").Log
        for name in ("__len__", "enter", "reorder", "entered", "row", "state", "way", "drifted", "never_matters", "undo",
                     "within"):
            self.assertIn(name, vars(log))
        self.assertIn("say", vars(importlib.import_module("endsandround.desk").Desk))


if __name__ == "__main__":
    unittest.main()
