"""The ways by their names (35, 36), as the document lists them, and what the tests of chains ask of them."""

from countkin import cars, cuts, elders, mirrors, queues, turnings, ways
from countkin.kin import by_parts
from countkin.names import family_of

SEVEN = ["brackets", "stairs", "twins", "bows", "rooms", "floor", "turns"]
THREE = ["peaks", "returns", "height"]
RINGS = ["leaves", "rootage"]

# The name, its back's name, the function, the marks it carries.
LISTED = [
    ("brackets>stairs", "stairs>brackets", ways.brackets_to_stairs, THREE),
    ("stairs>brackets", "brackets>stairs", ways.stairs_to_brackets, THREE),
    ("brackets>twins", "twins>brackets", cuts.brackets_to_twins, THREE),
    ("twins>brackets", "brackets>twins", cuts.twins_to_brackets, THREE),
    ("brackets>bows", "bows>brackets", ways.brackets_to_bows, THREE),
    ("bows>brackets", "brackets>bows", ways.bows_to_brackets, THREE),
    ("brackets>rooms", "rooms>brackets", ways.brackets_to_rooms, THREE[:2]),
    ("rooms>brackets", "brackets>rooms", ways.rooms_to_brackets, THREE[:2]),
    ("brackets>turns", "turns>brackets", ways.brackets_to_turns, THREE),
    ("turns>brackets", "brackets>turns", ways.turns_to_brackets, THREE),
    ("twins>floor", "floor>twins", cuts.twins_to_floor, THREE[:2]),
    ("floor>twins", "twins>floor", cuts.floor_to_twins, THREE[:2]),
    ("trees>codes", "codes>trees", elders.tree_to_code, RINGS),
    ("codes>trees", "trees>codes", elders.code_to_tree, RINGS),
    ("trees>cars", "cars>trees", queues.tree_to_cars, RINGS),
    ("cars>trees", "trees>cars", queues.cars_to_tree, RINGS),
    ("cars>codes", "codes>cars", cars.cars_to_code, []),
    ("codes>cars", "cars>codes", cars.code_to_cars, []),
    ("brackets>brackets:mirror", "brackets>brackets:mirror", mirrors.brackets_mirror, THREE),
    ("bows>bows:mirror", "bows>bows:mirror", mirrors.bows_mirror, THREE),
    ("twins>twins:mirror", "twins>twins:mirror", mirrors.twins_mirror, []),
    ("floor>floor:mirror", "floor>floor:mirror", mirrors.floor_mirror, []),
    ("turns>turns:mirror", "turns>turns:mirror", mirrors.turns_mirror, THREE),
    ("bows>bows:turn", "bows>bows:turnback", turnings.bows_turn, []),
    ("bows>bows:turnback", "bows>bows:turn", turnings.bows_turnback, []),
    ("floor>floor:turn", "floor>floor:turnback", turnings.floor_turn, []),
    ("floor>floor:turnback", "floor>floor:turn", turnings.floor_turnback, []),
    ("rooms>bows:feet", "bows>rooms:feet", turnings.rooms_to_feet, []),
    ("bows>rooms:feet", "rooms>bows:feet", turnings.feet_to_rooms, []),
    ("rooms>rooms:gaps", "rooms>rooms:gapsback", turnings.gaps, []),
    ("rooms>rooms:gapsback", "rooms>rooms:gaps", turnings.gapsback, []),
]


def parts(one, other):
    return lambda thing: by_parts(family_of(one), family_of(other), thing)


def listed_by_parts():
    for one in SEVEN:
        for other in SEVEN:
            if one != other:
                low = one in ("rooms", "floor") or other in ("rooms", "floor")
                yield (f"{one}>{other}:parts", f"{other}>{one}:parts", parts(one, other), THREE[:2] if low else THREE)


LISTED += listed_by_parts()
NAMES = [name for name, _, _, _ in LISTED]
BACK = {name: back for name, back, _, _ in LISTED}
FUNCTION = {name: function for name, _, function, _ in LISTED}
CARRIED = {name: marks for name, _, _, marks in LISTED}
ENDS = {name: tuple(name.split(":")[0].split(">")) for name in NAMES}
KEEPING = [name for name in NAMES if name.endswith(":parts") or (":" not in name and ENDS[name][0] in SEVEN)]


def fitting(word, among=NAMES):
    """The names of the ways that begin in a family."""
    return [name for name in among if ENDS[name][0] == word]


def some_chain(chance, word, length, among=NAMES):
    """A chain of some length that begins in a family; chance is a source with a seed of its own."""
    names = []
    while len(names) < length:
        names.append(chance.choice(fitting(word, among)))
        word = ENDS[names[-1]][1]
    return names


def all_things(word, most):
    """All things of a family up to a size; of those by rings only up to size 4."""
    family = family_of(word)
    most = min(most, 4) if family.least == 1 else most
    return [family.thing_of(size, number) for size in range(family.least, most + 1)
            for number in range(family.many(size))]
