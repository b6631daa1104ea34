"""Ways by their names, chains of ways, and two chains held against one another."""

from countkin.cars import cars_to_code, code_to_cars
from countkin.cuts import brackets_to_twins, floor_to_twins, twins_to_brackets, twins_to_floor
from countkin.elders import code_to_tree, tree_to_code
from countkin.errors import Apart, Broken, NoSize, NoWay
from countkin.kin import by_parts
from countkin.marks import MARKS_ORDER, marks_of
from countkin.mirrors import bows_mirror, brackets_mirror, floor_mirror, turns_mirror, twins_mirror
from countkin.names import family_of, split_families
from countkin.queues import cars_to_tree, tree_to_cars
from countkin.turnings import (
    bows_turn, bows_turnback, feet_to_rooms, floor_turn, floor_turnback, gaps, gapsback, rooms_to_feet,
)
from countkin.ways import (
    bows_to_brackets, brackets_to_bows, brackets_to_rooms, brackets_to_stairs, brackets_to_turns, rooms_to_brackets,
    stairs_to_brackets, turns_to_brackets,
)

# What stands behind the colon in the name of a way's back, where it is not the same.
OTHER_MANNERS = {"turn": "turnback", "turnback": "turn", "gaps": "gapsback", "gapsback": "gaps"}
GREATEST_HELD_SPLIT = 5
GREATEST_HELD_RING = 4


def direct_ways():
    return {
        "brackets>stairs": brackets_to_stairs, "stairs>brackets": stairs_to_brackets,
        "brackets>twins": brackets_to_twins, "twins>brackets": twins_to_brackets,
        "brackets>bows": brackets_to_bows, "bows>brackets": bows_to_brackets,
        "brackets>rooms": brackets_to_rooms, "rooms>brackets": rooms_to_brackets,
        "brackets>turns": brackets_to_turns, "turns>brackets": turns_to_brackets,
        "twins>floor": twins_to_floor, "floor>twins": floor_to_twins,
        "trees>codes": tree_to_code, "codes>trees": code_to_tree,
        "trees>cars": tree_to_cars, "cars>trees": cars_to_tree,
        "cars>codes": cars_to_code, "codes>cars": code_to_cars,
    }


def turning_ways():
    return {
        "brackets>brackets:mirror": brackets_mirror,
        "bows>bows:mirror": bows_mirror,
        "twins>twins:mirror": twins_mirror,
        "floor>floor:mirror": floor_mirror,
        "turns>turns:mirror": turns_mirror,
        "bows>bows:turn": bows_turn, "bows>bows:turnback": bows_turnback,
        "floor>floor:turn": floor_turn, "floor>floor:turnback": floor_turnback,
        "rooms>bows:feet": rooms_to_feet, "bows>rooms:feet": feet_to_rooms,
        "rooms>rooms:gaps": gaps, "rooms>rooms:gapsback": gapsback,
    }


def parts_name(one, other):
    return f"{one}>{other}:parts"


def parts_way(one, other):
    """The way by parts from one family to another, two objects of theirs."""
    return lambda thing: by_parts(one, other, thing)


def parts_ways():
    found = {}
    for one in split_families():
        for other in split_families():
            if one.word != other.word:
                found[parts_name(one.word, other.word)] = parts_way(one, other)
    return found


def all_ways():
    """A dict of the ways' names and their functions."""
    found = direct_ways()
    found.update(parts_ways())
    found.update(turning_ways())
    return found


def way_of(name):
    """The function of one thing that goes the way of a name."""
    found = all_ways()
    if name not in found:
        raise NoWay("no way has this name")
    return found[name]


def manner_of(name):
    """What stands behind the colon of a way's name; the empty text for a direct way."""
    return name.partition(":")[2]


def ends(name):
    """The tuple of the words of the families in which a way begins and ends."""
    # Asked for its refusal alone.
    way_of(name)
    words = name.partition(":")[0].split(">")
    return (words[0], words[1])


def back_of(name):
    """The name of a way's back."""
    words = ends(name)
    one = words[1]
    other = words[0]
    manner = manner_of(name)
    if manner == "":
        return f"{one}>{other}"
    back = OTHER_MANNERS.get(manner, manner)
    return f"{one}>{other}:{back}"


def carried_by(name):
    """The list of marks that a way carries."""
    words = ends(name)
    if not carries(words, manner_of(name)):
        return []
    others = marks_of(words[1])
    return [one for one in marks_of(words[0]) if one in others]


def carries(words, manner):
    """Whether a way carries the marks that both its families have; if not, it carries none."""
    if manner == "":
        return words != ("cars", "codes") and words != ("codes", "cars")
    if manner == "mirror":
        return words[0] in ("brackets", "bows", "turns")
    return manner == "parts"


def chain_ends(names):
    """The tuple of the words in which a chain begins and ends. Refuses names that make no chain."""
    if names == []:
        raise Broken(0)
    reached = ""
    for place, name in enumerate(names):
        words = ends(name)
        if place > 0 and words[0] != reached:
            raise Broken(place)
        reached = words[1]
    return (ends(names[0])[0], reached)


def chain(names):
    """The function of one thing that goes along all ways in their order."""
    chain_ends(names)
    ways = [way_of(name) for name in names]
    return lambda thing: led_along(ways, thing)


def led_along(ways, thing):
    reached = thing
    for way in ways:
        reached = way(reached)
    return reached


def chain_back(names):
    """The list of names of a chain's back."""
    chain_ends(names)
    return [back_of(name) for name in reversed(names)]


def carried(names):
    """The list of marks that every way of a chain carries, in their order."""
    chain_ends(names)
    lists = [carried_by(name) for name in names]
    return [one for one in MARKS_ORDER if all([one in marks for marks in lists])]


def held(ones, others, size):
    """None, or the tuple of the least number at which two chains part at a size, and its thing."""
    words = chain_ends(ones)
    if chain_ends(others) != words:
        raise Apart("the chains do not have the same ends")
    family = family_of(words[0])
    refuse_not_held(family, size)
    first = chain(ones)
    second = chain(others)
    for number in range(family.many(size)):
        thing = family.thing_of(size, number)
        if first(thing) != second(thing):
            return (number, thing)
    return None


def refuse_not_held(family, size):
    greatest = GREATEST_HELD_SPLIT if family.least == 0 else GREATEST_HELD_RING
    if size < family.least or size > greatest:
        raise NoSize("chains are not held against one another at this size")
