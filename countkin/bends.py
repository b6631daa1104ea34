"""Two families by splitting in which numbers are bound together: bows and rooms."""

from countkin.common import any_cross, each_once, flat, pairs_raised_by, raised_by
from countkin.kin import SplitFamily


class Bows(SplitFamily):
    """Lists of pairs that hold each number once and do not cross."""

    def __init__(self):
        SplitFamily.__init__(self, "bows")

    def size_of(self, thing):
        return len(thing)

    def is_one(self, thing):
        if not each_once(flat(thing)) or thing != sorted(thing):
            return False
        return all([a < b for a, b in thing]) and not any_cross(thing)

    def bare(self):
        return []

    def parted(self, thing):
        # The first bow ends behind both feet of each bow of the left part.
        left_size = thing[0][1] // 2
        left = pairs_raised_by(thing[1:left_size + 1], -1)
        right = pairs_raised_by(thing[left_size + 1:], -2 * left_size - 2)
        return (left, right)

    def joined(self, left, right):
        end = 2 * len(left) + 1
        return [(0, end)] + pairs_raised_by(left, 1) + pairs_raised_by(right, end + 1)


class Rooms(SplitFamily):
    """Lists of rooms, rising lists of numbers, that hold each number once and do not cross."""

    def __init__(self):
        SplitFamily.__init__(self, "rooms")

    def size_of(self, thing):
        return sum([len(room) for room in thing])

    def is_one(self, thing):
        if [] in thing or not each_once(flat(thing)):
            return False
        return thing == sorted([sorted(room) for room in thing]) and not any_cross(neighbours(thing))

    def bare(self):
        return []

    def parted(self, thing):
        left_size = thing[0][-1]
        # No room crosses the room of 0, so each lies as a whole on one side of its last number.
        within = [raised_by(room, -1) for room in thing[1:] if room[0] < left_size]
        behind = [raised_by(room, -left_size - 1) for room in thing[1:] if room[0] > left_size]
        if left_size > 0:
            within.append(raised_by(thing[0][1:], -1))
        return (sorted(within), behind)

    def joined(self, left, right):
        left_size = self.size_of(left)
        first = [0]
        others = []
        for room in left:
            if room[-1] == left_size - 1:
                first.extend(raised_by(room, 1))
            else:
                others.append(raised_by(room, 1))
        return [first] + others + [raised_by(room, left_size + 1) for room in right]


def neighbours(rooms):
    """The pairs of numbers that follow one another in a room: rooms cross just where such pairs do."""
    return flat([list(zip(room, room[1:])) for room in rooms])
