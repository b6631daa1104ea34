"""Two families by splitting that are written in a row: brackets and stairs."""

from countkin.common import raised_by
from countkin.kin import SplitFamily
from countkin.steps import closes


class Brackets(SplitFamily):
    """Texts that close."""

    def __init__(self):
        SplitFamily.__init__(self, "brackets")

    def size_of(self, thing):
        return thing.count("(")

    def is_one(self, thing):
        return closes(thing)

    def bare(self):
        return ""

    def parted(self, thing):
        end = first_close(thing)
        return (thing[1:end], thing[end + 1:])

    def joined(self, left, right):
        return "(" + left + ")" + right


def first_close(text):
    """The place of the ) that closes the first ( of a text that closes."""
    depth = 1
    place = 0
    while depth > 0:
        place += 1
        if text[place] == "(":
            depth += 1
        else:
            depth -= 1
    return place


class Stairs(SplitFamily):
    """Lists of numbers that never fall and are never greater than their place."""

    def __init__(self):
        SplitFamily.__init__(self, "stairs")

    def size_of(self, thing):
        return len(thing)

    def is_one(self, thing):
        ahead = 0
        for place, number in enumerate(thing):
            if number < ahead or number > place:
                return False
            ahead = number
        return True

    def bare(self):
        return []

    def parted(self, thing):
        begin = right_begin(thing)
        return (thing[1:begin], raised_by(thing[begin:], -begin))

    def joined(self, left, right):
        return [0] + left + raised_by(right, len(left) + 1)


def right_begin(stairs):
    """The place at which the right part begins; the length where it is bare."""
    for place in range(1, len(stairs)):
        # A left part stands one place further on than by itself, so no number in it comes up to its place.
        if stairs[place] == place:
            return place
    return len(stairs)
