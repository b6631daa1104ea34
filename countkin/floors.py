"""Floors, the family by splitting whose things are parted into triangles."""

from countkin.common import any_cross, pairs_raised_by
from countkin.kin import SplitFamily


class Floors(SplitFamily):
    """Tuples of a number of corners and a list of cuts that part the floor into triangles."""

    def __init__(self):
        SplitFamily.__init__(self, "floor")

    def size_of(self, thing):
        return thing[0] - 2

    def is_one(self, thing):
        corners = thing[0]
        cuts = thing[1]
        if corners < 2 or len(cuts) != max(0, corners - 3):
            return False
        if cuts != sorted(set(cuts)) or any_cross(cuts):
            return False
        return all([may_be_cut(corners, a, b) for a, b in cuts])

    def bare(self):
        return (2, [])

    def parted(self, thing):
        last = thing[0] - 1
        cuts = thing[1]
        third = third_corner(cuts, 0, last)
        left = [(a, b) for a, b in cuts if b <= third and (a, b) != (0, third)]
        right = [(a, b) for a, b in cuts if a >= third and (a, b) != (third, last)]
        return ((third + 1, left), (last - third + 1, pairs_raised_by(right, -third)))

    def joined(self, left, right):
        third = left[0] - 1
        last = third + right[0] - 1
        cuts = left[1] + pairs_raised_by(right[1], third)
        # Towards a bare part the triangle has a side of the floor, which is no cut.
        if third > 1:
            cuts.append((0, third))
        if last - third > 1:
            cuts.append((third, last))
        return (last + 1, sorted(cuts))


def may_be_cut(corners, a, b):
    """Whether a and b are corners, the lesser one first, and no neighbours."""
    return 0 <= a < b - 1 and b < corners and (a, b) != (0, corners - 1)


def third_corner(cuts, begin, end):
    """The third corner, between the two, of the triangle under a cut or under the last side."""
    return max([b for a, b in cuts if a == begin and b < end], default=begin + 1)
