"""Direct ways between brackets and stairs, bows, rooms and turns."""

from countkin.bends import Bows, Rooms
from countkin.common import flat
from countkin.rows import Turns
from countkin.signs import Brackets, Stairs


def brackets_to_stairs(thing):
    """For each (, how many ) stand ahead of it."""
    Brackets().refuse_other(thing)
    found = []
    closed = 0
    for sign in thing:
        if sign == "(":
            found.append(closed)
        else:
            closed += 1
    return found


def stairs_to_brackets(thing):
    Stairs().refuse_other(thing)
    signs = []
    closed = 0
    for number in thing:
        signs.append(")" * (number - closed) + "(")
        closed = number
    return "".join(signs) + ")" * (len(thing) - closed)


def brackets_to_bows(thing):
    """The places of each ( and of the ) that closes it."""
    Brackets().refuse_other(thing)
    found = []
    stack = []
    for place, sign in enumerate(thing):
        if sign == "(":
            stack.append(place)
        else:
            found.append((stack.pop(), place))
    return sorted(found)


def bows_to_brackets(thing):
    Bows().refuse_other(thing)
    signs = [")"] * (2 * len(thing))
    for a, b in thing:
        signs[a] = "("
    return "".join(signs)


def closed_in_runs(text):
    """For each run of ), the numbers of the ( that they close, in the order in which they are closed."""
    runs = []
    stack = []
    begun = 0
    ahead = "("
    for sign in text:
        if sign == "(":
            stack.append(begun)
            begun += 1
        else:
            if ahead == "(":
                runs.append([])
            runs[-1].append(stack.pop())
        ahead = sign
    return runs


def brackets_to_rooms(thing):
    """Each run of ) makes a room."""
    Brackets().refuse_other(thing)
    return sorted([sorted(run) for run in closed_in_runs(thing)])


def rooms_to_brackets(thing):
    Rooms().refuse_other(thing)
    signs = ["("] * Rooms().size_of(thing)
    for room in thing:
        # The run that makes a room stands straight behind the last ( that it closes.
        signs[room[-1]] = "(" + ")" * len(room)
    return "".join(signs)


def brackets_to_turns(thing):
    """The numbers of the ( in the order in which they are closed."""
    Brackets().refuse_other(thing)
    return flat(closed_in_runs(thing))


def turns_to_brackets(thing):
    Turns().refuse_other(thing)
    signs = []
    begun = 0
    for number in thing:
        signs.append("(" * (number + 1 - begun) + ")")
        begun = max(begun, number + 1)
    return "".join(signs)
