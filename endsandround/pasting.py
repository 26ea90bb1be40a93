"""Cut and paste: reorderings that are done by exchanging neighbouring stretches."""

from endsandround.allowing import is_allowed
from endsandround.common import turned_pairs
from endsandround.errors import Refused
from endsandround.moves import spread
from endsandround.reorderings import after, back, checked_reordering
from endsandround.triples import bags_of


def pasted(triple, reordering):
    """Some pastes that do a reordering, one after another, or None if no pastes do."""
    places = checked_reordering(reordering)
    first, last, step = triple
    least = first + last + 5 * step - 2
    if len(places) < least:
        raise Refused(least)
    bags = bags_of(triple, len(places))
    odd = [turned_pairs([places[at] for at in bag]) % 2 for bag in bags]
    if not is_allowed(triple, places) or sum(odd) not in (0, len(bags)):
        return None
    # One paste of a single entry of each bag makes all bags even, and these are put in order one by one.
    pastes = [_pasted_ahead(first, step, 1)] * odd[0]
    goals = after(back(spread(len(places), pastes)), places)
    for bag in bags:
        pastes = pastes + _pastes_within(goals, bag, step)
    return tuple(pastes)


def _pasted_ahead(at, step, many):
    # The paste that puts one entry of each bag ahead of so many others of its bag.
    return "swap", at, many * step, 0, step


def _pasted_behind(at, step, many):
    # The one that undoes it.
    return "swap", at, step, 0, many * step


def _pastes_within(goals, bag, step):
    # Pastes that lead the entries of a bag, which is even, to their goals, and leave all others alone.
    #
    # Two pastes at neighbouring places, one of which undoes the other, leave alone all other bags, and turn just
    # three entries of this one: those with the indexes at, at + 1 and at + many + 1.
    order = [goals[place] for place in bag]
    found = []
    for at in range(len(bag) - 2):
        other = order.index(bag[at])
        if other == at + 1:
            found.extend([_pasted_behind(bag[at], step, 1), _pasted_ahead(bag[at] + 1, step, 1)])
            order[at:at + 3] = [order[at + 1], order[at + 2], order[at]]
        elif other > at:
            many = other - at - 1
            found.extend([_pasted_behind(bag[at] + 1, step, many), _pasted_ahead(bag[at], step, many)])
            order[at], order[at + 1], order[other] = order[other], order[at], order[at + 1]
    return found
