"""Turns, the family by splitting whose things are rows of numbers that a stack can give back."""

from countkin.common import each_once, raised_by
from countkin.kin import SplitFamily


class Turns(SplitFamily):
    """Lists of the numbers from 0 on, each once, in which no greatest, least, middle one come so."""

    def __init__(self):
        SplitFamily.__init__(self, "turns")

    def size_of(self, thing):
        return len(thing)

    def is_one(self, thing):
        return each_once(thing) and comes_off_a_stack(thing)

    def bare(self):
        return []

    def parted(self, thing):
        left_size = thing.index(0)
        return (raised_by(thing[:left_size], -1), raised_by(thing[left_size + 1:], -left_size - 1))

    def joined(self, left, right):
        return raised_by(left, 1) + [0] + raised_by(right, len(left) + 1)


def comes_off_a_stack(numbers):
    """Whether the numbers from 0 on, put on a stack in their order, can come off it in this one.

    They can't just where a greatest one comes first, and a lesser one ahead of one between the two,
    which lies upon it.
    """
    stack = []
    put = 0
    for number in numbers:
        while put <= number:
            stack.append(put)
            put += 1
        if stack.pop() != number:
            return False
    return True
