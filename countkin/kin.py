"""What families have in common, and the way by parts between two of them."""

from countkin.counts import GREATEST_SIZE, by_rule, shares
from countkin.errors import NoNumber, NoSize, NoThing


class Family:
    """A word, a least size, and the refusals, which are due in the same order everywhere.

    A family tells what it is in size_of and is_one. How it counts and numbers its
    things stands in the three methods that begin with unchecked: these refuse nothing.
    """

    def __init__(self, word, least):
        self.word = word
        self.least = least

    def size_of(self, thing):
        raise NotImplementedError("each family tells this")

    def is_one(self, thing):
        raise NotImplementedError("each family tells this")

    def unchecked_many(self, size):
        raise NotImplementedError("each sort of family tells this")

    def unchecked_number(self, thing):
        raise NotImplementedError("each sort of family tells this")

    def unchecked_thing(self, size, number):
        raise NotImplementedError("each sort of family tells this")

    def many(self, size):
        """How many things of a size there are."""
        if size < self.least or size > GREATEST_SIZE:
            raise NoSize("the family has no such size")
        return self.unchecked_many(size)

    def refuse_other(self, thing):
        if not self.is_one(thing):
            raise NoThing("this is not one of the family")

    def number_of(self, thing):
        """The number of a thing among those of its size."""
        self.refuse_other(thing)
        return self.unchecked_number(thing)

    def thing_of(self, size, number):
        """The thing of a size that has a number."""
        # First of all, because a wrong size is refused ahead of a wrong number.
        most = self.many(size)
        if number < 0 or number >= most:
            raise NoNumber("no thing of this size has this number")
        return self.unchecked_thing(size, number)

    def next_of(self, thing):
        """The thing of the same size whose number is greater by one, or None."""
        number = self.number_of(thing) + 1
        size = self.size_of(thing)
        if number == self.unchecked_many(size):
            return None
        return self.unchecked_thing(size, number)


class SplitFamily(Family):
    """A family whose things are bare or have two parts, and are numbered by these."""

    def __init__(self, word):
        Family.__init__(self, word, 0)

    def bare(self):
        raise NotImplementedError("each family by splitting tells this")

    def parted(self, thing):
        raise NotImplementedError("each family by splitting tells this")

    def joined(self, left, right):
        raise NotImplementedError("each family by splitting tells this")

    def unchecked_many(self, size):
        return by_rule(size)

    def unchecked_number(self, thing):
        return self.number_by_parts(shares(self.size_of(thing)), thing)

    def unchecked_thing(self, size, number):
        return self.thing_by_parts(shares(size), size, number)

    def number_by_parts(self, counts, thing):
        """The number of a thing; counts has the shares up to its size at least."""
        size = self.size_of(thing)
        if size == 0:
            return 0
        parts = self.parted(thing)
        left_size = self.size_of(parts[0])
        ahead = sum([counts[j] * counts[size - 1 - j] for j in range(left_size)])
        left_number = self.number_by_parts(counts, parts[0])
        right_number = self.number_by_parts(counts, parts[1])
        return ahead + left_number * counts[size - 1 - left_size] + right_number

    def thing_by_parts(self, counts, size, number):
        """The thing of a number; counts has the shares up to its size at least."""
        if size == 0:
            return self.bare()
        left_size = 0
        rest = number
        while rest >= counts[left_size] * counts[size - 1 - left_size]:
            rest -= counts[left_size] * counts[size - 1 - left_size]
            left_size += 1
        right_size = size - 1 - left_size
        left = self.thing_by_parts(counts, left_size, rest // counts[right_size])
        right = self.thing_by_parts(counts, right_size, rest % counts[right_size])
        return self.joined(left, right)


def by_parts(one, other, thing):
    """The thing of family other to which a thing of family one is led by its parts."""
    one.refuse_other(thing)
    return led_by_parts(one, other, thing)


def led_by_parts(one, other, thing):
    if one.size_of(thing) == 0:
        return other.bare()
    parts = one.parted(thing)
    left = led_by_parts(one, other, parts[0])
    right = led_by_parts(one, other, parts[1])
    return other.joined(left, right)
