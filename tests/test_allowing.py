"""Point 24: what three numbers allow."""

from endsandround.allowing import is_allowed
from endsandround.court import numbers
from endsandround.errors import InvalidReordering
from endsandround.exactly import is_exact
from endsandround.links import links
from tests import brute
from tests.checks import WRONG_REORDERINGS, Case


class AllowingTest(Case):
    def test_as_the_document_says(self):
        triples = [None] + [(first, last, step) for first in range(4) for last in range(4) for step in (1, 2, 3, 7)]
        for triple in triples:
            for many in range(6):
                for p in brute.reorderings(many):
                    self.assertIs(is_allowed(triple, p), brute.is_allowed(triple, p))

    def test_told(self):
        self.assertIs(is_allowed(triple=(1, 1, 2), reordering=[0, 3, 2, 1, 4]), True)
        self.assertIs(is_allowed((1, 1, 2), (0, 2, 1, 3, 4)), False)
        self.assertIs(is_allowed((2, 1, 2), (0, 3, 2, 1, 4)), False)
        self.assertIs(is_allowed((1, 2, 2), (0, 3, 2, 1, 4)), False)
        self.assertIs(is_allowed((0, 0, 2), (2, 3, 0, 1)), True)
        self.assertIs(is_allowed((0, 0, 2), (2, 3, 1, 0)), False)

    def test_none_allows_what_is_idle(self):
        self.assertIs(is_allowed(None, (0, 1, 2)), True)
        self.assertIs(is_allowed(None, ()), True)
        self.assertIs(is_allowed(None, (0, 2, 1)), False)

    def test_more_ends_than_places(self):
        self.assertIs(is_allowed((5, 0, 1), (1, 0, 2)), False)
        self.assertIs(is_allowed((2, 2, 1), (0, 2, 1)), False)
        self.assertIs(is_allowed((10 ** 30, 10 ** 30, 1), (0, 1, 2)), True)
        self.assertIs(is_allowed((10 ** 30, 10 ** 30, 1), (0, 2, 1)), False)
        self.assertIs(is_allowed((0, 0, 10 ** 30), (0, 2, 1)), False)
        self.assertIs(is_allowed((3, 4, 5), ()), True)

    def test_400_places(self):
        turned = tuple((at + 200) % 400 for at in range(400))
        self.assertIs(is_allowed((0, 0, 200), turned), True)
        self.assertIs(is_allowed((0, 0, 400), turned), False)
        self.assertIs(is_allowed((0, 1, 200), turned), False)

    def test_wrong_reorderings(self):
        for value, at in WRONG_REORDERINGS:
            self.raises_at(InvalidReordering, at, is_allowed, (0, 0, 1), value)
            self.raises_at(InvalidReordering, at, is_allowed, None, value)

    def test_what_harmless_ones_have_to_do_with_it(self):
        for machine in (*brute.small_machines(), *brute.near_machines(241, 30, states=(3, 4))):
            triple = numbers(machine)
            for many in range(5):
                linked = links(machine, many)
                for p in brute.reorderings(many):
                    harmless = brute.is_harmless(machine, p)
                    self.assertTrue(is_allowed(triple, p) or not harmless)
                    if is_exact(machine, many):
                        self.assertEqual(is_allowed(triple, p), harmless)
                    if all(linked[i] == linked[p[i]] for i in range(many)):
                        self.assertTrue(harmless)
