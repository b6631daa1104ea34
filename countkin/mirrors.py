"""The mirrors of five families, each its own back."""

from countkin.bends import Bows
from countkin.common import pairs_anew
from countkin.floors import Floors
from countkin.rows import Turns
from countkin.signs import Brackets
from countkin.twigs import Twins


def brackets_mirror(thing):
    """Read from behind, with ( for ) and ) for (."""
    Brackets().refuse_other(thing)
    return "".join(["(" if sign == ")" else ")" for sign in reversed(thing)])


def bows_mirror(thing):
    Bows().refuse_other(thing)
    return mirrored_pairs(thing, 2 * len(thing) - 1)


def mirrored_pairs(pairs, last):
    """The pairs in which each number stands as far from the last one as it stood from 0."""
    return pairs_anew([(last - a, last - b) for a, b in pairs])


def twins_mirror(thing):
    Twins().refuse_other(thing)
    return mirrored_twins(thing)


def mirrored_twins(twin):
    if twin == ():
        return ()
    return (mirrored_twins(twin[1]), mirrored_twins(twin[0]))


def floor_mirror(thing):
    Floors().refuse_other(thing)
    return (thing[0], mirrored_pairs(thing[1], thing[0] - 1))


def turns_mirror(thing):
    """Places and numbers are exchanged, both counted from behind."""
    Turns().refuse_other(thing)
    last = len(thing) - 1
    found = [0] * len(thing)
    for place, number in enumerate(thing):
        found[last - number] = last - place
    return found
