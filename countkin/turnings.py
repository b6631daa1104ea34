"""Bows and floors turned by one, rooms told by feet, and the rooms of the gaps between numbers."""

from countkin.bends import Bows, Rooms, neighbours
from countkin.common import pairs_anew
from countkin.floors import Floors


def turned_pairs(pairs, step, ring):
    """The pairs in which each number has gone on by a step on a ring of so many numbers."""
    return pairs_anew([((a + step) % ring, (b + step) % ring) for a, b in pairs])


def bows_turn(thing):
    Bows().refuse_other(thing)
    return turned_pairs(thing, 1, 2 * len(thing))


def bows_turnback(thing):
    Bows().refuse_other(thing)
    return turned_pairs(thing, -1, 2 * len(thing))


def floor_turn(thing):
    Floors().refuse_other(thing)
    return (thing[0], turned_pairs(thing[1], 1, thing[0]))


def floor_turnback(thing):
    Floors().refuse_other(thing)
    return (thing[0], turned_pairs(thing[1], -1, thing[0]))


def rooms_to_feet(thing):
    """Number k has a left foot 2 k and a right foot 2 k + 1, bound as they follow one another in a room."""
    Rooms().refuse_other(thing)
    onward = [(2 * a + 1, 2 * b) for a, b in neighbours(thing)]
    around = [(2 * room[0], 2 * room[-1] + 1) for room in thing]
    return sorted(onward + around)


def feet_to_rooms(thing):
    Bows().refuse_other(thing)
    # Between the ends of a bow lie whole bows alone: it binds a left foot and a right one. So a bow that begins
    # with a right foot leads on to the next number of a room, and one that begins with a left foot goes round a room.
    following = {}
    for a, b in thing:
        if a % 2 == 1:
            following[a // 2] = b // 2
    return [room_from(following, a // 2) for a, b in thing if a % 2 == 0]


def room_from(following, first):
    """The room that has a first number, each other number got from the one ahead."""
    room = [first]
    while room[-1] in following:
        room.append(following[room[-1]])
    return room


def gaps(thing):
    """The rooms of the gaps, where gap k lies behind number k."""
    # Gap k lies between the feet 2 k + 1 and 2 k + 2: turned back by one, these are the feet of number k.
    return feet_to_rooms(bows_turnback(rooms_to_feet(thing)))


def gapsback(thing):
    """The rooms of the gaps, where gap k lies ahead of number k."""
    return feet_to_rooms(bows_turn(rooms_to_feet(thing)))
