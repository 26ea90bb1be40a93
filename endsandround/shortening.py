"""Short rows: what is left of a row if all that never matters is left out."""

from endsandround.errors import Refused
from endsandround.layers import settled_behind, settled_joined
from endsandround.machines import checked_row, effect
from endsandround.omissioncourt import omission_numbers


def _enough(machine):
    # From so many entries on all that is allowed may be left out.
    return settled_behind(machine) + settled_joined(machine)


def shortened(machine, row):
    """A row without as many entries as can be left out right behind its first ones."""
    entries = checked_row(machine.commands, row)
    triple = omission_numbers(machine)
    if triple is None:
        return entries
    first, _, block = triple
    many = max(0, len(entries) - _enough(machine)) // block * block
    return entries[:first] + entries[first + many:]


def effect_by_ends(machine, beginning, length, end):
    """The effect of every row of a length with such a beginning and such an end."""
    ahead = checked_row(machine.commands, beginning)
    behind = checked_row(machine.commands, end)
    triple = omission_numbers(machine)
    if triple is None:
        raise Refused(0)
    first, last, block = triple
    enough = _enough(machine)
    if len(ahead) != first:
        raise Refused(1)
    if length < enough:
        raise Refused(2)
    if len(behind) != last:
        raise Refused(3)
    # Between the ends only the number of entries has an effect, and leaving out blocks of them has none.
    kept = enough + (length - enough) % block
    return effect(machine, ahead + (0,) * (kept - first - last) + behind)
