"""Point 67: views and parts."""

from itertools import combinations, product

from endsandround.court import numbers
from endsandround.errors import Refused
from endsandround.machines import Machine, reached
from endsandround.sides import combined, side_by_side
from endsandround.views import is_view, merging_view, part, split_views, viewed
from tests import brute
from tests.checks import Case, Odd

TURNS = Machine(2, [(1, 0), (0, 2), (2, 1)])
BITS = side_by_side(Machine(2, [(1, 0), (0, 1)]), Machine(2, [(0, 1), (1, 0)]))


def is_view_slowly(machine, view):
    return all(
        view[machine.steps[one][c]] == view[machine.steps[other][c]]
        for one, other in product(range(machine.states), repeat=2) if view[one] == view[other]
        for c in range(machine.commands)
    )


def views_of(machine):
    """All views, each number told by the least state that has it."""
    found = []
    for view in product(range(machine.states), repeat=machine.states):
        if all(view[number] == number and number <= at for at, number in enumerate(view)):
            if is_view_slowly(machine, view):
                found.append(view)
    return found


def machines():
    yield from brute.small_machines()
    yield from brute.random_machines(671, 60)
    yield from brute.near_machines(672, 40)
    yield from brute.reversible_machines(673, 20, commands=(1, 2, 3), states=(2, 3, 4, 5))
    yield BITS


class ViewTest(Case):
    def test_is_view(self):
        for machine in brute.random_machines(674, 30, states=(1, 2, 3)):
            for view in product((0, 1, 7), repeat=machine.states):
                self.assertIs(is_view(machine, view), is_view_slowly(machine, view))
        self.assertIs(is_view(machine=TURNS, value=(10 ** 30,) * 3), True)

    def test_no_views(self):
        for value in (None, 3, "000", (), (0, 0), (0, 0, 0, 0), [0, 0, 0], (0, 0, -1), (0, 0, True), (False,) * 3,
                      (0, 0, 0.0), (0, 0, None), (Odd(),) * 3, Odd(), {0: 0, 1: 0, 2: 0}, b"\0\0\0", (0, 0, (0,)), (0, 0, 1)):
            self.assertIs(is_view(TURNS, value), False)
            self.raises_at(Refused, 0, viewed, TURNS, value)

    def test_viewed(self):
        for machine in brute.random_machines(675, 40, states=(1, 2, 3, 4)):
            for view in product((4, 0, 10 ** 20, 7), repeat=machine.states):
                if not is_view_slowly(machine, view):
                    continue
                found = viewed(machine, view)
                order = sorted(set(view))
                self.assertEqual((found.commands, found.states), (machine.commands, len(order)))
                for state, command in product(range(machine.states), range(machine.commands)):
                    target = found.steps[order.index(view[state])][command]
                    self.assertEqual(order[target], view[machine.steps[state][command]])
        self.assertEqual(viewed(machine=TURNS, view=(5, 5, 5)), Machine(2, [(0, 0)]))
        self.is_all_tuples(viewed(TURNS, (9, 8, 7)).steps)

    def test_merging_view(self):
        for machine in machines():
            if machine.states > 4:
                continue
            views = views_of(machine)
            for one, other in product(range(machine.states), repeat=2):
                merging = [view for view in views if view[one] == view[other]]
                wanted = tuple(
                    min(s for s in range(machine.states) if all(view[s] == view[state] for view in merging))
                    for state in range(machine.states)
                )
                self.assertEqual(merging_view(machine, one, other), wanted)
        self.assertEqual(merging_view(machine=BITS, one=0, other=1), (0, 0, 2, 2))
        self.assertEqual(merging_view(TURNS, 2, 2), (0, 1, 2))
        self.assertEqual(merging_view(TURNS, 2, 1), (0, 0, 0))

    def test_split_views(self):
        found = {True: 0, False: 0}
        for machine in machines():
            if machine.states > 5:
                continue
            pair = split_views(machine)
            found[pair is None] += 1
            views = [view for view in views_of(machine) if len(set(view)) < machine.states]
            if pair is None:
                for one, other in product(views, repeat=2):
                    self.assertLess(len(set(zip(one, other))), machine.states)
                if machine.states > 1:
                    pairs = combinations(range(machine.states), 2)
                    self.assertTrue(any(all(view[s] == view[t] for view in views) for s, t in pairs))
            else:
                self.is_all_tuples(pair)
                for view in pair:
                    self.assertTrue(is_view(machine, view))
                    self.assertLess(len(set(view)), machine.states)
                self.assertEqual(len(set(zip(*pair))), machine.states)
        self.assertTrue(min(found.values()) > 50)
        self.assertIsNone(split_views(machine=TURNS))
        self.assertIsNone(split_views(Machine(1, [(0,)])))
        self.assertIsNone(split_views(Machine(1, [(0,), (1,)])))

    def test_split_views_of_greater_machines(self):
        for machine in (side_by_side(TURNS, TURNS), Machine(2, [(s, s) for s in range(10)]), brute.beside(
                brute.wheel(3), brute.last_memory(3)), side_by_side(Machine(2, brute.wheel(5)), Machine(2, brute.wheel(3)))):
            one, other = split_views(machine)
            self.assertTrue(is_view(machine, one) and is_view(machine, other))
            self.assertLess(max(len(set(one)), len(set(other))), machine.states)
            self.assertEqual(len(set(zip(one, other))), machine.states)
        self.assertIsNone(split_views(Machine(2, brute.last_memory(60))))

    def test_part(self):
        for machine in machines():
            for start in range(machine.states):
                states = reached(machine, start)
                found = part(machine, start)
                self.assertEqual((found.commands, found.states), (machine.commands, len(states)))
                for at, state in enumerate(states):
                    self.assertEqual(tuple(states[target] for target in found.steps[at]), machine.steps[state])
        self.assertEqual(part(machine=Machine(1, [(0,), (2,), (1,)]), start=2), Machine(1, [(1,), (0,)]))

    def test_facts(self):
        for machine in machines():
            if machine.states > 5:
                continue
            triple = numbers(machine)
            parts = [numbers(part(machine, start)) for start in range(machine.states)]
            seen = [numbers(viewed(machine, view)) for view in (views_of(machine) if machine.states < 5 else [])]
            whole = (0, 0, 1)
            for told in parts:
                whole = combined(whole, told)
            self.assertEqual(triple, whole)
            pair = split_views(machine)
            if pair is not None:
                self.assertEqual(triple, combined(*[numbers(viewed(machine, view)) for view in pair]))
            if triple is not None:
                for told in parts + seen:
                    self.assertTrue(told[0] <= triple[0] and told[1] <= triple[1] and triple[2] % told[2] == 0)
