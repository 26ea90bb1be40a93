"""Ties: places whose entries the told reorderings bind together."""

from endsandround.claims import shown_numbers
from endsandround.common import least_holding
from endsandround.errors import Refused
from endsandround.reorderings import rings, three_ring
from endsandround.rowlots import laid_moves

LIMIT = 120


def knots(claims, length):
    """The knots of places of rows of a length."""
    tied = Ties(claims, length)
    return tuple(sorted([tuple(sorted(lot)) for lot in tied.lots if len(lot) > 1]))


class Ties:
    """The lots of places that are bound together; `lots` has them all, those that are bound to none alone.

    If two places are bound, so are those to which any move leads them. It is enough to see to the pairs by
    which lots come together: they bind all others.
    """

    def __init__(self, claims, length):
        self.lots = [[place] for place in range(length)]
        self.numbers = list(range(length))
        moves = [places for _, places in laid_moves(claims, length)]
        pairs = _ringed_pairs(claims, length)
        at = 0
        while at < len(pairs):
            one, other = pairs[at]
            if self.numbers[one] != self.numbers[other]:
                self.put_together(self.numbers[one], self.numbers[other])
                moving = [places for places in moves if places[one] != one or places[other] != other]
                pairs.extend([(places[one], places[other]) for places in moving])
            at += 1

    def put_together(self, one, other):
        """Makes one lot of two, which have these numbers."""
        for place in self.lots[other]:
            self.numbers[place] = one
        self.lots[one] = self.lots[one] + self.lots[other]
        self.lots[other] = []


def _ringed_pairs(claims, length):
    # The pairs of neighbours in all three-rings that can be laid.
    found = []
    for places in claims.reorderings:
        if rings(places):
            ring = three_ring(places)
            one, other, third = rings(ring)[0]
            for before in range(length - len(ring) + 1):
                found.extend([(before + one, before + other), (before + other, before + third)])
    return found


def is_full(claims, length):
    """Whether the claims bind all places together at a length that they can bind."""
    triple = shown_numbers(claims)
    if triple is None:
        return True
    first, last, step = triple
    found = knots(claims, length)
    ringed = sorted([place for knot in found for place in knot])
    wanted = [place for place in range(first, length - last) if place not in ringed]
    return not wanted and len(found) == step and all([len(knot) > claims.commands for knot in found])


def full_from(claims):
    """The least length that is full."""
    if not is_full(claims, LIMIT):
        raise Refused(LIMIT)
    return least_holding(
        LIMIT,
        lambda length: is_full(claims, length),
    )
