"""The families as the document defines them, looked at by trying all, without the package's help.

A Hand has, for one family: the word; is_one, the definition; size; small, values of the kind
among which all small things of the family are; wrong, values of the kind that are not of the family.
A SplitHand also has joined and parted, as the document tells the parts.
"""

import itertools

BIG = 10 ** 59
HUGE = int("9" * 60)
FARTHEST = [BIG, -BIG, HUGE, -HUGE]
SIGNS = [chr(code) for code in range(32, 127) if chr(code) != "%"]


class Hand:
    def __init__(self, word, is_one, size, small, wrong):
        self.word = word
        self.is_one = is_one
        self.size = size
        self.small = small
        self.wrong = wrong


class SplitHand(Hand):
    def __init__(self, word, is_one, size, small, wrong, bare, joined, parted):
        Hand.__init__(self, word, is_one, size, small, wrong)
        self.bare = bare
        self.joined = joined
        self.parted = parted

    def in_order(self, most):
        """The lists of all things of each size up to most, in the order of their numbers (point 9)."""
        found = [[self.bare()]]
        for size in range(1, most + 1):
            found.append([self.joined(left, right)
                          for i in range(size)
                          for left in found[i]
                          for right in found[size - 1 - i]])
        return found


def rows(numbers, most):
    """All lists of these numbers with at most so many of them."""
    for length in range(most + 1):
        for row in itertools.product(numbers, repeat=length):
            yield list(row)


def shifted(numbers, step):
    return [number + step for number in numbers]


def shifted_pairs(pairs, step):
    return [(a + step, b + step) for a, b in pairs]


def far_rows(good):
    """Each list with one of its numbers made far too great or far too small."""
    return [row[:k] + [number] + row[k + 1:] for row in good for k in range(len(row)) for number in FARTHEST]


# Brackets (6, 10)

def brackets_is_one(thing):
    if thing.count("(") + thing.count(")") != len(thing) or thing.count("(") != thing.count(")"):
        return False
    return all(thing[:k].count(")") <= thing[:k].count("(") for k in range(len(thing) + 1))


def brackets_small():
    for length in range(11):
        for signs in itertools.product("()", repeat=length):
            yield "".join(signs)
    for signs in itertools.product("(). a-[", repeat=4):
        yield "".join(signs)


def brackets_parted(thing):
    ends = [k for k in range(2, len(thing) + 1) if thing[:k].count("(") == thing[:k].count(")")]
    return (thing[1:ends[0] - 1], thing[ends[0]:])


BRACKETS = SplitHand(
    "brackets", brackets_is_one, lambda thing: len(thing) // 2, brackets_small,
    ["(", ")", ")(", "())", "(()", "())(", ")()(", "(" * 80, ")" * 80, ")" * 40 + "(" * 40, "()" * 39 + ")(",
     "(" * 40 + ")" * 39, "(" * 39 + ")" * 40, "-", ".", "( )", "() ", " ()", "[]", "{}", "(a)", "a" * 80, " "]
    + ["(" + sign + ")" for sign in SIGNS if sign not in "()"],
    lambda: "", lambda left, right: "(" + left + ")" + right, brackets_parted)


# Stairs (11)

def stairs_is_one(thing):
    return (all(0 <= number <= place for place, number in enumerate(thing))
            and all(a <= b for a, b in zip(thing, thing[1:])))


def stairs_parted(thing):
    """The one pair of parts that may stand there: each left size is tried."""
    found = []
    for i in range(len(thing)):
        left, right = thing[1:i + 1], shifted(thing[i + 1:], -i - 1)
        if stairs_is_one(left) and stairs_is_one(right):
            found.append((left, right))
    assert len(found) == 1, thing
    return found[0]


STAIRS = SplitHand(
    "stairs", stairs_is_one, len, lambda: rows(range(-1, 6), 5),
    [[1], [-1], [0, 2], [0, -1], [0, 1, 0], [0, 0, 3], [0, 1, 2, 4], [0, 1, 1, 0], list(range(1, 41)), [0] * 79 + [80],
     list(range(80, 0, -1)), [0] * 39 + [-1], [0, 1] * 40]
    + far_rows([[0], [0, 1], [0] * 40, list(range(80))]),
    lambda: [], lambda left, right: [0] + left + shifted(right, len(left) + 1), stairs_parted)


# Twins (12)

def twins_size(thing):
    return 0 if thing == () else 1 + twins_size(thing[0]) + twins_size(thing[1])


def twins_small():
    found = [[()]]
    for size in range(1, 7):
        found.append([(left, right) for i in range(size) for left in found[i] for right in found[size - 1 - i]])
    return [thing for things in found for thing in things]


TWINS = SplitHand(
    "twins", lambda thing: True, twins_size, twins_small, [],
    lambda: (), lambda left, right: (left, right), lambda thing: thing)


# Bows (14)

def cross(one, other):
    return one[0] < other[0] < one[1] < other[1]


def bows_is_one(thing):
    n = len(thing)
    return (all(a < b for a, b in thing)
            and all(one[0] < other[0] for one, other in zip(thing, thing[1:]))
            and all(sum(pair.count(k) for pair in thing) == 1 for k in range(2 * n))
            and not any(cross(one, other) for one in thing for other in thing))


def bows_small():
    for length, numbers in ((0, []), (1, range(-2, 4)), (2, range(-1, 5)), (3, range(6))):
        pairs = list(itertools.product(numbers, repeat=2))
        for thing in itertools.product(pairs, repeat=length):
            yield list(thing)


def bows_joined(left, right):
    i = len(left)
    return [(0, 2 * i + 1)] + shifted_pairs(left, 1) + shifted_pairs(right, 2 * i + 2)


def bows_parted(thing):
    end = thing[0][1]
    left = [(a, b) for a, b in thing if a > 0 and b < end]
    right = [(a, b) for a, b in thing if a > end]
    return (shifted_pairs(left, -1), shifted_pairs(right, -end - 1))


NESTED = [(k, 79 - k) for k in range(40)]
SIDE_BY_SIDE = [(2 * k, 2 * k + 1) for k in range(40)]

BOWS = SplitHand(
    "bows", bows_is_one, len, bows_small,
    [[(0, 0)], [(1, 0)], [(1, 2)], [(0, 2)], [(0, 2), (1, 3)], [(2, 3), (0, 1)], [(0, 1), (0, 1)], [(0, 1), (1, 2)],
     [(0, 1), (3, 4)], [(0, 3), (2, 1)], [(1, 0), (2, 3)], [(-1, 0)], [(0, 1), (2, 4)], [(1, 2), (0, 3)],
     [(0, 3), (1, 4), (2, 5)], [(0, 5), (1, 3), (2, 4)], [(0, 1), (2, 4), (3, 5)], [(0, 1)] * 40,
     [(k, k + 40) for k in range(40)], [(k, k + 80) for k in range(80)], NESTED[::-1], SIDE_BY_SIDE[::-1],
     SIDE_BY_SIDE[1:], NESTED[1:], [(79, 0)] + NESTED[1:], [(0, b) for a, b in NESTED]]
    + [SIDE_BY_SIDE[:-1] + [(78, far)] for far in FARTHEST] + [[(far, 1)] for far in FARTHEST]
    + [[(far, far + 1)] for far in FARTHEST],
    lambda: [], bows_joined, bows_parted)


# Rooms (15)

def rooms_is_one(thing):
    n = sum(len(room) for room in thing)
    if any(room == [] for room in thing):
        return False
    if not all(a < b for room in thing for a, b in zip(room, room[1:])):
        return False
    if not all(one[0] < other[0] for one, other in zip(thing, thing[1:])):
        return False
    if not all(sum(room.count(k) for room in thing) == 1 for k in range(n)):
        return False
    home = {number: place for place, room in enumerate(thing) for number in room}
    return not any(home[a] == home[c] != home[b] == home[d] for a, b, c, d in itertools.combinations(range(n), 4))


def rooms_small():
    yield from ([], [[]], [[], []])
    for length in range(1, 5):
        for row in itertools.product(range(-1, length + 1), repeat=length):
            for ends in itertools.product(range(3), repeat=length):
                thing = [[]]
                for number, end in zip(row, ends):
                    thing[-1].append(number)
                    thing.extend([] for _ in range(end))
                yield thing
                # An empty room may stand first as well as behind each number.
                if sum(ends) < 2:
                    yield [[]] + [list(room) for room in thing]


def rooms_joined(left, right):
    i = rooms_size(left)
    found = [shifted(room, 1) for room in left] + [shifted(room, i + 1) for room in right]
    if i == 0:
        found.append([0])
    for room in found:
        if i > 0 and i in room:
            room.append(0)
    return sorted(sorted(room) for room in found)


def rooms_parted(thing):
    n = rooms_size(thing)
    i = max(max(room) for room in thing if 0 in room)
    return (rooms_on(thing, range(1, i + 1)), rooms_on(thing, range(i + 1, n)))


def rooms_on(thing, numbers):
    """What the rooms are on a stretch of numbers, made less so that it begins with 0."""
    found = [[number - numbers[0] for number in room if number in numbers] for room in thing]
    return sorted(room for room in found if room)


def rooms_size(thing):
    return sum(len(room) for room in thing)


ALONE = [[k] for k in range(40)]

ROOMS = SplitHand(
    "rooms", rooms_is_one, rooms_size, rooms_small,
    [[[]], [[], []], [[], [0]], [[0], []], [[1]], [[-1]], [[0, 0]], [[1, 0]], [[0], [0]], [[1], [0]], [[0, 2]],
     [[0, 2], [1, 3]], [[0, 2, 4], [1, 3]], [[0, 3], [1, 4], [2]], [[0], [1, 3], [2, 4]], [[0], [2], [1]],
     [[0, 1], [3]], [[0, 1], [1, 2]], [[0, 2, 1]], [[]] * 80, [[0]] * 80, [[k] for k in range(1, 41)], ALONE[::-1],
     [list(range(39, -1, -1))], [list(range(0, 80, 2)), list(range(1, 80, 2))], [[k, k + 40] for k in range(40)],
     ALONE + [[]], [[]] + ALONE, [list(range(40)) + [39]]]
    + [[[far]] for far in FARTHEST] + [ALONE[:-1] + [[far]] for far in FARTHEST]
    + [[[0, far], [1]] for far in FARTHEST] + [[[0], [far, 1]] for far in FARTHEST],
    lambda: [], rooms_joined, rooms_parted)


# Floors (16)

def floor_is_one(thing):
    corners, cuts = thing
    n = corners - 2
    if n < 0 or len(cuts) != (n - 1 if n > 0 else 0):
        return False
    if not all(one < other for one, other in zip(cuts, cuts[1:])):
        return False
    beside = floor_sides(corners)
    return (all(0 <= a < b < corners and (a, b) not in beside for a, b in cuts)
            and not any(cross(one, other) for one in cuts for other in cuts))


def floor_sides(corners):
    return [(k, k + 1) for k in range(corners - 1)] + [(0, corners - 1)]


def floor_small():
    for corners in range(-1, 6):
        pairs = list(itertools.product(range(-1, 6), repeat=2))
        for length in range(3):
            for cuts in itertools.product(pairs, repeat=length):
                yield (corners, list(cuts))
    for cuts in itertools.product(list(itertools.product(range(6), repeat=2)), repeat=3):
        yield (6, list(cuts))


def floor_joined(left, right):
    k = left[0] - 1
    last = k + right[0] - 1
    found = left[1] + shifted_pairs(right[1], k)
    found += [pair for pair in ((0, k), (k, last)) if pair not in floor_sides(last + 1)]
    return (last + 1, sorted(found))


def floor_parted(thing):
    corners, cuts = thing
    lines = cuts + floor_sides(corners)
    last = corners - 1
    found = [k for k in range(1, last) if (0, k) in lines and (k, last) in lines]
    assert len(found) == 1, thing
    k = found[0]
    left = [(a, b) for a, b in cuts if a in range(k + 1) and b in range(k + 1) and (a, b) != (0, k)]
    right = [(a, b) for a, b in cuts if a >= k and b >= k and (a, b) != (k, last)]
    return ((k + 1, left), (last - k + 1, shifted_pairs(right, -k)))


FANNED = [(0, k) for k in range(2, 41)]
TO_LAST = [(k, 41) for k in range(1, 40)]

FLOORS = SplitHand(
    "floor", floor_is_one, lambda thing: thing[0] - 2, floor_small,
    [(1, []), (0, []), (-1, []), (4, []), (2, [(0, 1)]), (3, [(0, 1)]), (3, [(0, 2)]), (4, [(0, 1)]), (4, [(0, 3)]),
     (4, [(1, 2)]), (4, [(2, 0)]), (4, [(3, 1)]), (4, [(0, 4)]), (4, [(-1, 1)]), (4, [(0, 2), (1, 3)]), (5, [(0, 2)]),
     (5, [(0, 2), (0, 2)]), (5, [(0, 3), (0, 2)]), (5, [(0, 2), (1, 3)]), (5, [(0, 3), (2, 4)]), (5, [(1, 3), (0, 3)]),
     (5, [(0, 2), (0, 4)]), (5, [(0, 2), (2, 3)]), (4, [(1, 1)]), (1, [(0, 2)]), (999, []), (999, FANNED), (998, TO_LAST),
     (42, FANNED[1:]), (42, FANNED + [(0, 41)]), (42, FANNED[::-1]), (42, TO_LAST[::-1]), (41, FANNED), (43, FANNED),
     (42, FANNED[:-1] + [(0, 41)]), (42, FANNED[:-1] + [(1, 41)]), (42, FANNED[:1] * 39), (0, FANNED), (80, [(0, 2)] * 77)]
    + [(far, []) for far in (-BIG, -HUGE)] + [(-far, FANNED) for far in (BIG, HUGE)]
    + [(4, [(0, far)]) for far in FARTHEST] + [(4, [(far, 2)]) for far in FARTHEST]
    + [(42, FANNED[:-1] + [(0, far)]) for far in FARTHEST] + [(42, [(far, 2)] + FANNED[1:]) for far in FARTHEST],
    lambda: (2, []), floor_joined, floor_parted)


# Turns (17)

def turns_is_one(thing):
    return (all(thing.count(k) == 1 for k in range(len(thing)))
            and not any(b < c < a for a, b, c in itertools.combinations(thing, 3)))


def turns_small():
    yield from rows(range(-1, 6), 5)
    for length in range(6, 8):
        for thing in itertools.permutations(range(length)):
            yield list(thing)


def turns_parted(thing):
    i = thing.index(0)
    return (shifted(thing[:i], -1), shifted(thing[i + 1:], -i - 1))


UP = list(range(40))

TURNS = SplitHand(
    "turns", turns_is_one, len, turns_small,
    [[1], [-1], [0, 0], [0, 2], [1, 1], [2, 0, 1], [1, 2], [3, 0, 2, 1], [0, 3, 1, 2], [3, 1, 0, 2], [1, 3, 0, 2],
     [3, 2, 0, 1], [0, 1, 1], UP[1:], UP + [39], UP + [41], [39] + UP[:-1], [2, 0, 1] + UP[3:], UP[:-3] + [39, 37, 38],
     [20] + UP[:20] + UP[21:], [0] * 80, UP + UP, list(range(80, 0, -1)), [39] + UP[1:38][::-1] + [0, 38],
     [79] + list(range(79))]
    + far_rows([[0], [0, 1], UP]),
    lambda: [], lambda left, right: shifted(left, 1) + [0] + shifted(right, len(left) + 1), turns_parted)


SPLIT_HANDS = [BRACKETS, STAIRS, TWINS, BOWS, ROOMS, FLOORS, TURNS]


# Codes (21)

def codes_is_one(thing):
    n = len(thing) + 1
    return all(number in range(n + 1) for number in thing)


CODES = Hand(
    "codes", codes_is_one, lambda thing: len(thing) + 1, lambda: rows(range(-2, 7), 4),
    [[-1], [3], [4], [0, 4], [4, 0], [-1, 0], [0, -1], [0, 0, 5], [5, 0, 0], [0, 0, -1], [41] * 39, [40] * 38 + [41],
     [41] + [40] * 38, [-1] + [0] * 38, [0] * 38 + [-1], [82] * 80, [-1] * 80]
    + far_rows([[0], [0, 1], [40] * 39, [0] * 80]))


# Trees (22, 23)

def trees_is_one(thing):
    n = len(thing)
    if n == 0 or not all(number in range(n + 1) for number in thing):
        return False
    for knot in range(1, n + 1):
        seen = []
        while knot != 0:
            if knot in seen:
                return False
            seen.append(knot)
            knot = thing[knot - 1]
    return True


def tree_code(thing):
    elders = {place + 1: number for place, number in enumerate(thing)}
    written = []
    while elders:
        leaf = next(knot for knot in sorted(elders) if knot not in elders.values())
        written.append(elders.pop(leaf))
    assert written[-1] == 0
    return written[:-1]


TREES = Hand(
    "trees", trees_is_one, len, lambda: rows(range(-1, 6), 4),
    [[], [1], [-1], [2], [1, 0], [0, 2], [2, 1], [3, 0], [0, 3], [2, 3, 1], [0, 3, 2], [2, 3, 2], [0, 0, 4], [-1, 0, 0],
     [1] + [0] * 39, [0] * 39 + [40], [0] * 39 + [41], list(range(1, 41)), list(range(2, 41)) + [1], [2, 1] + [0] * 38,
     [0] * 38 + [40, 39], list(range(2, 81)) + [1], [81] * 80, [-1] + [0] * 39]
    + far_rows([[0], [0, 1], [0] * 40, list(range(80))]))


# Cars (24, 25)

def cars_is_one(thing):
    n = len(thing)
    return (n > 0 and all(number in range(n) for number in thing)
            and all(sum(1 for number in thing if number <= k) >= k + 1 for k in range(n)))


def cars_code(thing):
    n = len(thing)
    return [(b - a) % (n + 1) for a, b in zip(thing, thing[1:])]


def cars_parked(thing):
    """Where each car stands: the first place from its wish on at which nobody stands."""
    stands = {}
    for car, wish in enumerate(thing):
        place = next(place for place in range(wish, len(thing)) if place not in stands)
        stands[place] = car
    return [place for car, place in sorted((car, place) for place, car in stands.items())]


CARS = Hand(
    "cars", cars_is_one, len, lambda: rows(range(-1, 6), 5),
    [[], [1], [-1], [1, 1], [0, 2], [2, 0], [0, -1], [-1, 0], [1, 1, 1], [0, 2, 2], [2, 2, 0], [1, 2, 1], [0, 1, 3],
     [3, 0, 0], [1] * 40, [0] * 39 + [40], [39, 39] + [0] * 36 + [38, 38], [39] * 2 + [0] * 38, list(range(1, 41)),
     [40] + list(range(39)), [0] * 39 + [-1], [-1] + [0] * 39, [20] * 21 + list(range(19)), [79] * 80, [-1] * 80]
    + far_rows([[0], [0, 1], [0] * 40, list(range(80))]))
