"""The marks as the document defines them (32, 33), by trying all, without the package's help."""

import functools
import itertools

from byhand import floor_sides


def brackets_peaks(thing):
    return sum(1 for k in range(len(thing)) if thing[k:k + 2] == "()")


def brackets_returns(thing):
    return sum(1 for k in range(2, len(thing) + 1) if thing[:k].count("(") == thing[:k].count(")"))


def brackets_height(thing):
    return max(thing[:k].count("(") - thing[:k].count(")") for k in range(len(thing) + 1))


def stairs_peaks(thing):
    return sum(1 for number in range(len(thing)) if number in thing)


def stairs_returns(thing):
    return sum(1 for place in range(len(thing)) if thing[place] == place)


def stairs_height(thing):
    return max((place + 1 - thing[place] for place in range(len(thing))), default=0)


def pairs_of(thing):
    return [] if thing == () else [thing] + pairs_of(thing[0]) + pairs_of(thing[1])


def twins_peaks(thing):
    return sum(1 for left, right in pairs_of(thing) if left == ())


def twins_returns(thing):
    return 0 if thing == () else 1 + twins_returns(thing[1])


def twins_height(thing):
    return 0 if thing == () else max(1 + twins_height(thing[0]), twins_height(thing[1]))


def lies_under(bow, other):
    return other[0] < bow[0] and bow[1] < other[1]


def bows_peaks(thing):
    return sum(1 for a, b in thing if b - a == 1)


def bows_returns(thing):
    return sum(1 for bow in thing if not any(lies_under(bow, other) for other in thing))


def bows_height(thing):
    @functools.lru_cache(None)
    def longest(bow):
        return 1 + max((longest(other) for other in thing if lies_under(other, bow)), default=0)

    return max((longest(bow) for bow in thing), default=0)


def lies_within(room, other):
    return any(all(k < number for number in room) for k in other) and any(
        all(k > number for number in room) for k in other)


def rooms_peaks(thing):
    return sum(1 for room in thing)


def rooms_returns(thing):
    return sum(1 for room in thing if not any(lies_within(room, other) for other in thing))


def floor_triangles(thing):
    corners, cuts = thing
    lines = set(cuts + floor_sides(corners))
    found = [(a, b, c) for a, b, c in itertools.combinations(range(corners), 3)
             if (a, b) in lines and (b, c) in lines and (a, c) in lines]
    assert len(found) == corners - 2, thing
    return found


def floor_peaks(thing):
    return sum(1 for triangle in floor_triangles(thing)
               if any(a + 1 in triangle and any(b > a + 1 for b in triangle) for a in triangle))


def floor_returns(thing):
    return sum(1 for triangle in floor_triangles(thing) if thing[0] - 1 in triangle)


def turns_peaks(thing):
    return len(thing) - sum(1 for k in range(len(thing) - 1) if thing[k + 1] < thing[k])


def turns_returns(thing):
    return sum(1 for k in range(len(thing)) if all(thing[k] < number for number in thing[k + 1:]))


def turns_height(thing):
    @functools.lru_cache(None)
    def longest(k):
        return 1 + max((longest(j) for j in range(k + 1, len(thing)) if thing[j] < thing[k]), default=0)

    return max((longest(k) for k in range(len(thing))), default=0)


def trees_leaves(thing):
    return sum(1 for knot in range(1, len(thing) + 1) if all(elder != knot for elder in thing))


def trees_rootage(thing):
    return sum(1 for elder in thing if elder == 0)


def codes_leaves(thing):
    n = len(thing) + 1
    return sum(1 for number in range(1, n + 1) if number not in thing)


def codes_rootage(thing):
    return sum(1 for number in thing if number == 0) + 1


def cars_leaves(thing):
    n = len(thing)
    return sum(1 for place in range(n + 1) if all(wish != place for wish in thing))


def cars_rootage(thing):
    return sum(1 for wish in thing if wish == 0)


THREE = ["peaks", "returns", "height"]
MARKS = {
    "brackets": THREE, "stairs": THREE, "twins": THREE, "bows": THREE, "rooms": THREE[:2], "floor": THREE[:2],
    "turns": THREE, "codes": ["leaves", "rootage"], "trees": ["leaves", "rootage"], "cars": ["leaves", "rootage"],
}


def by_hand(word, name):
    return globals()[f"{word}_{name}"]
