"""The marks of every family by their names."""

from countkin.errors import NoMark
from countkin.names import family_of
from countkin.ringmarks import cars_leaves, cars_rootage, codes_leaves, codes_rootage, trees_leaves, trees_rootage
from countkin.splitmarks import (
    bows_peaks, bows_returns, brackets_peaks, brackets_returns, floor_peaks, floor_returns, rooms_peaks, rooms_returns,
    stairs_peaks, stairs_returns, turns_peaks, turns_returns, twins_peaks, twins_returns,
)
from countkin.tallmarks import bows_height, brackets_height, stairs_height, turns_height, twins_height

MARKS_ORDER = ("peaks", "returns", "height", "leaves", "rootage")


def all_measures():
    """For each family's word a dict of its marks, in their order, and what measures them."""
    return {
        "brackets": {"peaks": brackets_peaks, "returns": brackets_returns, "height": brackets_height},
        "stairs": {"peaks": stairs_peaks, "returns": stairs_returns, "height": stairs_height},
        "twins": {"peaks": twins_peaks, "returns": twins_returns, "height": twins_height},
        "bows": {"peaks": bows_peaks, "returns": bows_returns, "height": bows_height},
        "rooms": {"peaks": rooms_peaks, "returns": rooms_returns},
        "floor": {"peaks": floor_peaks, "returns": floor_returns},
        "turns": {"peaks": turns_peaks, "returns": turns_returns, "height": turns_height},
        "codes": {"leaves": codes_leaves, "rootage": codes_rootage},
        "trees": {"leaves": trees_leaves, "rootage": trees_rootage},
        "cars": {"leaves": cars_leaves, "rootage": cars_rootage},
    }


def marks_of(word):
    """The list of the marks of a family, in their order."""
    family = family_of(word)
    return list(all_measures()[family.word])


def mark(word, name, thing):
    """The mark of that name of a thing."""
    family = family_of(word)
    if name not in marks_of(word):
        raise NoMark("the family has no such mark")
    family.refuse_other(thing)
    return all_measures()[word][name](thing)
