"""Direct ways between brackets and twins, and between twins and floors."""

from countkin.floors import Floors
from countkin.signs import Brackets
from countkin.twigs import Twins


def brackets_to_twins(thing):
    """The twins are built from the last sign on, each upon the right part that stands ready."""
    Brackets().refuse_other(thing)
    waiting = []
    twin = ()
    for place in range(len(thing) - 1, -1, -1):
        if thing[place] == ")":
            waiting.append(twin)
            twin = ()
        else:
            twin = (twin, waiting.pop())
    return twin


def twins_to_brackets(thing):
    Twins().refuse_other(thing)
    signs = []
    waiting = [thing]
    while waiting != []:
        one = waiting.pop()
        if one == ")":
            signs.append(")")
        elif one != ():
            signs.append("(")
            # What is to come first is put last.
            waiting.extend([one[1], ")", one[0]])
    return "".join(signs)


def twins_to_floor(thing):
    Twins().refuse_other(thing)
    lines = []
    last = lines_over(lines, thing, 0)
    # The line over the whole is a side, and the last one that was drawn.
    return (last + 1, sorted(lines[:-1]))


def lines_over(lines, twin, corner):
    """Draws the lines over a twin and its parts from a corner on; the corner to which the twin leads."""
    if twin == ():
        return corner + 1
    third = lines_over(lines, twin[0], corner)
    end = lines_over(lines, twin[1], third)
    lines.append((corner, end))
    return end


def floor_to_twins(thing):
    Floors().refuse_other(thing)
    last = thing[0] - 1
    begins = [a for a, b in thing[1]]
    if last > 1:
        begins.append(0)
    waiting = []
    for corner in range(last - 1, -1, -1):
        twin = ()
        # The lines from a corner, the shortest first, each lie over the line ahead and one that waits.
        for number in range(begins.count(corner)):
            twin = (twin, waiting.pop())
        waiting.append(twin)
    return waiting[0]
