"""Points 29, 30 and 31: turnings, feet and gaps."""

import itertools
import unittest

from byhand import BOWS, FLOORS, ROOMS
from checks import OwnChecks, spread
from countkin.counts import by_rule
from countkin.errors import NoThing
from countkin.names import family_of
from countkin.turnings import (
    bows_turn, bows_turnback, feet_to_rooms, floor_turn, floor_turnback, gaps, gapsback, rooms_to_feet,
)


def pairs_by_hand(pairs, new):
    return sorted(tuple(sorted((new[a], new[b]))) for a, b in pairs)


def bows_turn_by_hand(thing):
    n = len(thing)
    return pairs_by_hand(thing, {a: a + 1 if a < 2 * n - 1 else 0 for a in range(2 * n)})


def bows_turnback_by_hand(thing):
    n = len(thing)
    return pairs_by_hand(thing, {a: a - 1 if a > 0 else 2 * n - 1 for a in range(2 * n)})


def floor_turn_by_hand(thing):
    corners, cuts = thing
    return (corners, pairs_by_hand(cuts, {k: k + 1 if k < corners - 1 else 0 for k in range(corners)}))


def floor_turnback_by_hand(thing):
    corners, cuts = thing
    return (corners, pairs_by_hand(cuts, {k: k - 1 if k > 0 else corners - 1 for k in range(corners)}))


def feet_by_hand(thing):
    found = []
    for room in thing:
        for number in room:
            greater = [other for other in room if other > number]
            if greater:
                found.append((2 * number + 1, 2 * min(greater)))
        found.append((2 * min(room), 2 * max(room) + 1))
    return sorted(found)


def bound_together(n, bound):
    """The rooms of the numbers below n in which those stand together that some pairs bind, over others perhaps."""
    home = list(range(n))
    for _ in range(n):
        for a, b in bound:
            home[a] = home[b] = min(home[a], home[b])
    return [[k for k in range(n) if home[k] == one] for one in sorted(set(home))]


def feet_back_by_hand(thing):
    return bound_together(len(thing), [(a // 2, b // 2) for a, b in thing])


def stretch_holds(thing, stretch):
    """Whether no room has both a number of a stretch and one that is none of these."""
    return not any(set(room) & set(stretch) and set(room) - set(stretch) for room in thing)


def rooms_of_gaps(thing, begin, end):
    """Gaps j < k stand together where the stretch from j + begin up to below k + end holds."""
    n = sum(len(room) for room in thing)
    bound = [(j, k) for j, k in itertools.combinations(range(n), 2)
             if stretch_holds(thing, range(j + begin, k + end))]
    found = bound_together(n, bound)
    # Nothing stands together over others alone.
    assert sorted(pair for room in found for pair in itertools.combinations(room, 2)) == bound, thing
    return found


def gaps_by_hand(thing):
    return rooms_of_gaps(thing, 1, 1)


def gapsback_by_hand(thing):
    return rooms_of_gaps(thing, 0, 0)


# Each with its back, as the document tells it, and its first and its other family.
TURNINGS = [
    (bows_turn, bows_turnback, bows_turn_by_hand, BOWS, BOWS),
    (bows_turnback, bows_turn, bows_turnback_by_hand, BOWS, BOWS),
    (floor_turn, floor_turnback, floor_turn_by_hand, FLOORS, FLOORS),
    (floor_turnback, floor_turn, floor_turnback_by_hand, FLOORS, FLOORS),
    (rooms_to_feet, feet_to_rooms, feet_by_hand, ROOMS, BOWS),
    (feet_to_rooms, rooms_to_feet, feet_back_by_hand, BOWS, ROOMS),
    (gaps, gapsback, gaps_by_hand, ROOMS, ROOMS),
    (gapsback, gaps, gapsback_by_hand, ROOMS, ROOMS),
]


class TurningsTest(OwnChecks, unittest.TestCase):
    def samples(self):
        for way, back, by_hand, one, other in TURNINGS:
            things = [thing for things in one.in_order(6) for thing in things]
            things += [family_of(one.word).thing_of(40, number) for number in spread(by_rule(40))]
            for thing in things:
                yield way, back, by_hand, one, other, thing

    def test_as_the_document_tells(self):
        for way, _, by_hand, _, _, thing in self.samples():
            with self.subTest(way=way.__name__, thing=thing):
                self.assertEqual(way(thing), by_hand(thing))

    def test_forth_and_back(self):
        for way, back, _, _, _, thing in self.samples():
            with self.subTest(way=way.__name__, thing=thing):
                self.assertEqual(back(way(thing)), thing)

    def test_each_tells_one_of_its_family(self):
        for way, _, _, one, other, thing in self.samples():
            with self.subTest(way=way.__name__, thing=thing):
                self.assertTrue(other.is_one(way(thing)))
                self.assertEqual(other.size(way(thing)), one.size(thing))

    def test_bows_turned_all_round_come_home(self):
        for turn in (bows_turn, bows_turnback):
            for thing in [thing for things in BOWS.in_order(6) for thing in things] + [BOWS.in_order(8)[8][777]]:
                turned = thing
                for _ in range(2 * len(thing)):
                    turned = turn(turned)
                self.assertEqual(turned, thing)

    def test_floors_turned_all_round_come_home(self):
        for turn in (floor_turn, floor_turnback):
            for thing in [thing for things in FLOORS.in_order(6) for thing in things] + [FLOORS.in_order(8)[8][777]]:
                turned = thing
                for _ in range(thing[0]):
                    turned = turn(turned)
                self.assertEqual(turned, thing)

    def test_gaps_twice_turn_the_numbers(self):
        for thing in ROOMS.in_order(6)[6]:
            new = sorted(sorted((number - 1) % 6 for number in room) for room in thing)
            self.assertEqual(gaps(gaps(thing)), new)

    def test_size_0_and_size_1(self):
        for way, things in ((bows_turn, [[], [(0, 1)]]), (floor_turn, [(2, []), (3, [])]), (gaps, [[], [[0]]]),
                            (bows_turnback, [[], [(0, 1)]]), (floor_turnback, [(2, []), (3, [])]),
                            (gapsback, [[], [[0]]])):
            for thing in things:
                self.assertEqual(way(thing), thing)
        self.assertEqual([rooms_to_feet([]), rooms_to_feet([[0]])], [[], [(0, 1)]])
        self.assertEqual([feet_to_rooms([]), feet_to_rooms([(0, 1)])], [[], [[0]]])

    def test_written_ones(self):
        self.assertEqual(bows_turn([(0, 5), (1, 2), (3, 4), (6, 7)]), [(0, 7), (1, 6), (2, 3), (4, 5)])
        self.assertEqual(bows_turnback([(0, 7), (1, 6), (2, 3), (4, 5)]), [(0, 5), (1, 2), (3, 4), (6, 7)])
        self.assertEqual(floor_turn((6, [(0, 3), (1, 3), (3, 5)])), (6, [(0, 4), (1, 4), (2, 4)]))
        self.assertEqual(floor_turnback((6, [(0, 4), (1, 4), (2, 4)])), (6, [(0, 3), (1, 3), (3, 5)]))
        self.assertEqual(rooms_to_feet([[0, 2], [1], [3]]), [(0, 5), (1, 4), (2, 3), (6, 7)])
        self.assertEqual(feet_to_rooms([(0, 5), (1, 4), (2, 3), (6, 7)]), [[0, 2], [1], [3]])
        self.assertEqual(gaps([[0, 2], [1], [3]]), [[0, 1], [2, 3]])
        self.assertEqual(gapsback([[0, 1], [2, 3]]), [[0, 2], [1], [3]])
        self.assertEqual(gaps([[0], [1], [2]]), [[0, 1, 2]])
        self.assertEqual(gapsback([[0, 1, 2]]), [[0], [1], [2]])

    def test_what_is_not_one_of_the_first_family(self):
        for way, _, _, one, _ in TURNINGS:
            for thing in one.wrong:
                with self.subTest(way=way.__name__, thing=thing):
                    self.assertRaises(NoThing, way, thing)

    def test_what_is_told_is_the_askers_own(self):
        for way, _, _, one, _ in TURNINGS:
            for thing in [thing for things in one.in_order(4) for thing in things]:
                self.check_own(way, thing)


if __name__ == "__main__":
    unittest.main()
