"""Peaks and returns of the families by splitting, each told of a thing that is one of its family."""

from countkin.floors import third_corner


def brackets_peaks(thing):
    """How many ( have a ) straight behind them."""
    return thing.count("()")


def depths(text):
    """For each beginning of brackets, from one sign on, by how much it has more ( than )."""
    found = []
    depth = 0
    for sign in text:
        if sign == "(":
            depth += 1
        else:
            depth -= 1
        found.append(depth)
    return found


def brackets_returns(thing):
    """How many beginnings, from two signs on, have as many ( as )."""
    return depths(thing).count(0)


def stairs_peaks(thing):
    """How many unlike numbers there are."""
    return len(set(thing))


def stairs_returns(thing):
    """How many numbers are as great as their place."""
    return len([place for place, number in enumerate(thing) if number == place])


def twins_peaks(thing):
    """How many pairs have a bare left part."""
    peaks = 0
    waiting = [thing]
    while waiting != []:
        twin = waiting.pop()
        if twin != ():
            waiting.extend(twin)
            if twin[0] == ():
                peaks += 1
    return peaks


def twins_returns(thing):
    """How many pairs there are on the way into the right part again and again."""
    returns = 0
    twin = thing
    while twin != ():
        returns += 1
        twin = twin[1]
    return returns


def bows_peaks(thing):
    """How many lead from a number to the next."""
    return len([a for a, b in thing if b == a + 1])


def bows_over(thing, bow):
    """The bows under which a bow lies."""
    return [(a, b) for a, b in thing if a < bow[0] and bow[1] < b]


def bows_returns(thing):
    """How many lie under no other."""
    return len([bow for bow in thing if bows_over(thing, bow) == []])


def rooms_peaks(thing):
    """How many rooms there are."""
    return len(thing)


def rooms_around(thing, room):
    """The rooms within which a room lies."""
    return [other for other in thing if other[0] < room[0] and room[-1] < other[-1]]


def rooms_returns(thing):
    """How many lie within no other."""
    return len([room for room in thing if rooms_around(thing, room) == []])


def triangles(thing):
    """The triangles of a floor, the corners of each rising."""
    last = thing[0] - 1
    cuts = thing[1]
    # Just one triangle lies under each cut and under the last side; with two corners nothing does.
    lines = (cuts + [(0, last)]) if last > 1 else []
    return [(a, third_corner(cuts, a, b), b) for a, b in lines]


def floor_peaks(thing):
    """How many triangles have two corners a and a + 1 and a third one above a + 1."""
    return len([least for least, middle, greatest in triangles(thing) if middle == least + 1])


def floor_returns(thing):
    """How many triangles have the last corner."""
    return len([greatest for least, middle, greatest in triangles(thing) if greatest == thing[0] - 1])


def turns_peaks(thing):
    """The size less how many numbers have a smaller one straight behind them."""
    return len(thing) - len([a for a, b in zip(thing, thing[1:]) if b < a])


def turns_returns(thing):
    """How many numbers are less than all that stand behind them."""
    return len([place for place, number in enumerate(thing) if number == min(thing[place:])])
