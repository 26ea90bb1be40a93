"""Point 38: claims."""

from random import Random

from endsandround.claims import Claims, broken, shown_numbers
from endsandround.court import numbers
from endsandround.errors import InvalidMachine, InvalidReordering, Refused
from endsandround.exactly import inexact_lengths
from endsandround.judge import is_harm
from endsandround.machines import Machine
from tests import brute
from tests.checks import WRONG_REORDERINGS, Case, Odd

NONE = Machine(2, [(0, 1), (0, 0)])
TURNS = Machine(2, [(1, 0), (0, 2), (2, 1)])
FRAMED = brute.beside(brute.first_memory(2), brute.last_memory(1), brute.wheel(2))
BEYOND = brute.beside(*[brute.wheel(step) for step in (2, 3, 5, 7, 11, 13)])


def some_claims(random, commands=(2, 3), most=3, places=5):
    many = random.randrange(most + 1)
    told = [tuple(random.sample(range(n), n)) for n in (random.randrange(places + 1) for _ in range(many))]
    for _ in range(random.randrange(2)):
        n = random.randrange(2, places + 1)
        told.append(brute.swapped(tuple(range(n)), *random.sample(range(n), 2)))
    return Claims(random.choice(commands), told)


class ClaimsTest(Case):
    def test_attributes(self):
        claims = Claims(commands=2, reorderings=[[1, 0], (0, 2, 1), ()])
        self.assertEqual((claims.commands, claims.reorderings), (2, ((1, 0), (0, 2, 1), ())))
        self.is_all_tuples(claims.reorderings)
        self.assertEqual(Claims(5, ()).reorderings, ())

    def test_equal(self):
        claims = Claims(2, [(1, 0), (0, 2, 1)])
        self.assertTrue(claims == Claims(2, ([1, 0], [0, 2, 1])))
        self.assertFalse(claims != Claims(2, ([1, 0], [0, 2, 1])))
        for other in (Claims(3, [(1, 0), (0, 2, 1)]), Claims(2, [(0, 2, 1), (1, 0)]), Claims(2, [(1, 0)])):
            self.assertFalse(claims == other)
            self.assertTrue(claims != other)
        for other in (None, 2, (2, ((1, 0), (0, 2, 1))), "claims", NONE, object()):
            self.assertFalse(claims == other)

    def test_later_changes(self):
        inner = [1, 0]
        told = [inner]
        claims = Claims(2, told)
        inner[0], inner[1] = 0, 1
        told.append((0,))
        self.assertEqual(claims.reorderings, ((1, 0),))

    def test_wrong_commands(self):
        for value in (1, 0, -2, None, "2", 2.0, True, (2,), Odd()):
            self.raises_at(InvalidMachine, 0, Claims, value, None)
            self.raises_at(InvalidMachine, 0, Claims, commands=value, reorderings=[(1, 0)])

    def test_wrong_reorderings(self):
        for value in (None, 3, "01", {0: (1, 0)}, Odd(), {(1, 0)}):
            self.raises_at(InvalidReordering, 0, Claims, 2, value)
        for value, _ in (*WRONG_REORDERINGS, (Odd(), 0), ((Odd(), 0), 0)):
            self.raises_at(InvalidReordering, 0, Claims, 2, [value])
            self.raises_at(InvalidReordering, 2, Claims, 2, [(1, 0), [], value, None])


class BrokenTest(Case):
    def test_as_by_all_rows(self):
        random = Random(381)
        met = set()
        machines = (*brute.small_machines(), *brute.near_machines(381, 150), *brute.reversible_machines(381, 40))
        for machine in (*machines, FRAMED, NONE, TURNS):
            if machine.commands not in (2, 3):
                continue
            claims = some_claims(random, commands=(machine.commands,))
            wanted = [index for index, p in enumerate(claims.reorderings) if not brute.is_harmless(machine, p)]
            told = broken(claims, machine)
            if not wanted:
                self.assertIsNone(told)
                met.add(None)
                continue
            self.is_all_tuples(told)
            index, harm = told
            self.assertEqual(index, wanted[0])
            self.assertTrue(brute.is_harm(machine, claims.reorderings[index], harm))
            self.assertIs(is_harm(machine, claims.reorderings[index], harm), True)
            met.add(index)
        self.assertLessEqual({None, 0, 1}, met)

    def test_told(self):
        self.assertIsNone(broken(claims=Claims(2, [(2, 1, 0), (0, 3, 2, 1)]), machine=TURNS))
        index, _ = broken(Claims(2, [(2, 1, 0), (0, 1), (0, 2, 1), (1, 0)]), TURNS)
        self.assertEqual(index, 2)
        self.assertIsNone(broken(Claims(2, []), NONE))
        self.assertIsNone(broken(Claims(2, [(), (0, 1)]), NONE))

    def test_another_number_of_commands(self):
        self.raises_at(Refused, 0, broken, Claims(3, [(1, 0)]), NONE)
        self.raises_at(Refused, 0, broken, Claims(3, []), NONE)
        self.raises_at(Refused, 0, broken, Claims(3, [(1, 0)]), BEYOND)

    def test_refused_as_by_the_judge(self):
        # At eight places, the fourth one is not linked with the others, though the numbers allow all reorderings.
        machine = Machine(3, [(*entry, entry[0]) for entry in brute.short_memory(4, 5)])
        wide = tuple(range(8))[::-1]
        self.assertEqual((numbers(machine), inexact_lengths(machine)), ((0, 0, 1), (2, 8)))
        self.raises_at(Refused, 8, broken, Claims(3, [wide]), machine)
        self.raises_at(Refused, 8, broken, Claims(3, [(0, 1), wide]), machine)
        self.assertEqual(broken(Claims(3, [(0, 1), (0, 1, 2, 4, 3), wide]), machine)[0], 1)
        self.raises_at(Refused, 8, broken, Claims(3, [wide, (0, 1, 2, 4, 3)]), machine)

    def test_refused_by_the_numbers(self):
        self.raises_at(Refused, 5000, broken, Claims(2, [(1, 0)]), BEYOND)
        self.assertIsNone(broken(Claims(2, []), BEYOND))


class ShownTest(Case):
    def test_as_the_document_says(self):
        random = Random(382)
        for _ in range(300):
            claims = some_claims(random)
            moved = [p for p in claims.reorderings if p != tuple(range(len(p)))]
            told = shown_numbers(claims)
            if not moved:
                self.assertIsNone(told)
                continue
            triples = [t for t in ((f, n, s) for f in range(6) for n in range(6) for s in range(1, 6))
                       if all(brute.is_allowed(t, p) for p in moved)]
            self.assertEqual(told, max(triples))
            self.assertEqual(told, tuple(max(t[at] for t in triples) for at in range(3)))

    def test_told(self):
        self.assertEqual(shown_numbers(claims=Claims(2, [(2, 1, 0), (0, 3, 2, 1)])), (0, 0, 2))
        self.assertEqual(shown_numbers(Claims(2, [(0, 1, 4, 3, 2, 5, 6), (0, 1, 2)])), (2, 2, 2))
        self.assertEqual(shown_numbers(Claims(3, [(0, 5, 2, 3, 4, 1, 6, 7), (6, 1, 2, 3, 4, 5, 0)])), (0, 0, 2))
        self.assertIsNone(shown_numbers(Claims(2, [])))
        self.assertIsNone(shown_numbers(Claims(2, [(0, 1, 2), ()])))

    def test_numbers_of_machines_that_keep_them(self):
        random = Random(383)
        kept = 0
        for machine in (*brute.near_machines(383, 200), FRAMED, TURNS, Machine(2, brute.short_memory(2, 3))):
            claims = some_claims(random, commands=(machine.commands,), most=1)
            shown = shown_numbers(claims)
            if shown is not None and broken(claims, machine) is None:
                first, last, step = numbers(machine)
                self.assertTrue(first <= shown[0] and last <= shown[1] and shown[2] % step == 0)
                kept += 1
        self.assertGreater(kept, 10)
