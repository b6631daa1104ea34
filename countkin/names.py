"""The ten families by their words."""

from countkin.bends import Bows, Rooms
from countkin.cars import Cars
from countkin.elders import Trees
from countkin.errors import NoFamily
from countkin.floors import Floors
from countkin.ring import Codes
from countkin.rows import Turns
from countkin.signs import Brackets, Stairs
from countkin.twigs import Twins


def split_families():
    """A new object of each family by splitting, in the families' order."""
    return [Brackets(), Stairs(), Twins(), Bows(), Rooms(), Floors(), Turns()]


def ring_families():
    """A new object of each family by rings, in the families' order."""
    return [Codes(), Trees(), Cars()]


def families():
    """The list of the ten words."""
    return [family.word for family in split_families() + ring_families()]


def family_of(word):
    """A new object of the family that has a word."""
    for family in split_families() + ring_families():
        if family.word == word:
            return family
    raise NoFamily("no family has this word")
