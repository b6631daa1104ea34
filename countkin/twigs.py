"""Twins, the family by splitting whose things are their two parts."""

from countkin.kin import SplitFamily


class Twins(SplitFamily):
    """The empty tuple, or tuples of two twins."""

    def __init__(self):
        SplitFamily.__init__(self, "twins")

    def size_of(self, thing):
        pairs = 0
        row = [thing]
        while row != []:
            twin = row.pop()
            if twin != ():
                pairs += 1
                row.extend(twin)
        return pairs

    def is_one(self, thing):
        # The definition asks nothing that the kind does not ask.
        return True

    def bare(self):
        return ()

    def parted(self, thing):
        return (thing[0], thing[1])

    def joined(self, left, right):
        return (left, right)
