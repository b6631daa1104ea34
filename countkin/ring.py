"""What the families by rings have in common, and codes, the first of them."""

from countkin.counts import ring_many
from countkin.kin import Family


class RingFamily(Family):
    """A family whose things have codes, and are numbered by these."""

    def __init__(self, word):
        Family.__init__(self, word, 1)

    def code_of(self, thing):
        raise NotImplementedError("each family by rings tells this")

    def of_code(self, code):
        raise NotImplementedError("each family by rings tells this")

    def unchecked_many(self, size):
        return ring_many(size)

    def unchecked_number(self, thing):
        return figures_number(self.code_of(thing), self.size_of(thing) + 1)

    def unchecked_thing(self, size, number):
        return self.of_code(number_figures(number, size + 1, size - 1))


def figures_number(figures, base):
    """The number that a row of figures to a base writes, the first one counting most."""
    number = 0
    for figure in figures:
        number = number * base + figure
    return number


def number_figures(number, base, length):
    """The row of figures to a base, so many of them, that writes a number."""
    figures = [0] * length
    rest = number
    for place in range(length - 1, -1, -1):
        figures[place] = rest % base
        rest = rest // base
    return figures


class Codes(RingFamily):
    """Lists of numbers not above the size, which is greater by one than the length."""

    def __init__(self):
        RingFamily.__init__(self, "codes")

    def size_of(self, thing):
        return len(thing) + 1

    def is_one(self, thing):
        size = len(thing) + 1
        return all([0 <= number <= size for number in thing])

    def code_of(self, thing):
        return list(thing)

    def of_code(self, code):
        return list(code)
