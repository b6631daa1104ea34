"""Points 18 and 19: the twelve direct ways among the seven, and what of point 3 speaks of them."""

import itertools
import unittest

from byhand import BOWS, BRACKETS, FLOORS, ROOMS, STAIRS, TURNS, TWINS
from checks import OwnChecks, spread, with_few_frames
from countkin.bends import Bows, Rooms
from countkin.counts import by_rule
from countkin.cuts import brackets_to_twins, floor_to_twins, twins_to_brackets, twins_to_floor
from countkin.errors import NoThing
from countkin.floors import Floors
from countkin.kin import by_parts
from countkin.rows import Turns
from countkin.signs import Brackets, Stairs
from countkin.twigs import Twins
from countkin.ways import (
    bows_to_brackets, brackets_to_bows, brackets_to_rooms, brackets_to_stairs, brackets_to_turns, rooms_to_brackets,
    stairs_to_brackets, turns_to_brackets,
)

FAMILY = {"brackets": Brackets, "stairs": Stairs, "bows": Bows, "rooms": Rooms, "turns": Turns, "twins": Twins,
          "floor": Floors}

# Each way, its first family and its other one, by hand.
WAYS = [
    (brackets_to_stairs, BRACKETS, STAIRS), (stairs_to_brackets, STAIRS, BRACKETS),
    (brackets_to_bows, BRACKETS, BOWS), (bows_to_brackets, BOWS, BRACKETS),
    (brackets_to_rooms, BRACKETS, ROOMS), (rooms_to_brackets, ROOMS, BRACKETS),
    (brackets_to_turns, BRACKETS, TURNS), (turns_to_brackets, TURNS, BRACKETS),
    (brackets_to_twins, BRACKETS, TWINS), (twins_to_brackets, TWINS, BRACKETS),
    (twins_to_floor, TWINS, FLOORS), (floor_to_twins, FLOORS, TWINS),
]


def closing_places(text):
    """For each (, in their order, the place of the ) that closes it: the first at which as many of each stand."""
    found = []
    for place, sign in enumerate(text):
        if sign == "(":
            ends = [k for k in range(place, len(text))
                    if text[place:k + 1].count("(") == text[place:k + 1].count(")")]
            found.append(ends[0])
    return found


class WaysTest(OwnChecks, unittest.TestCase):
    def test_all_small_sizes_as_by_parts(self):
        for way, one, other in WAYS:
            for ones, others in zip(one.in_order(7), other.in_order(7)):
                with self.subTest(way=way.__name__):
                    self.assertEqual([way(thing) for thing in ones], others)

    def test_each_tells_what_by_parts_tells(self):
        for way, one, other in WAYS:
            one_family, other_family = FAMILY[one.word](), FAMILY[other.word]()
            things = [thing for ones in one.in_order(6) for thing in ones]
            things += [one_family.thing_of(40, number) for number in spread(by_rule(40))]
            for thing in things:
                with self.subTest(way=way.__name__, thing=thing):
                    self.assertEqual(way(thing), by_parts(one_family, other_family, thing))

    def test_forth_and_back(self):
        for (way, one, _), (back, _, _) in [pair for k in range(0, 12, 2)
                                            for pair in (WAYS[k:k + 2], WAYS[k:k + 2][::-1])]:
            family = FAMILY[one.word]()
            things = [thing for ones in one.in_order(6) for thing in ones]
            for thing in things + [family.thing_of(40, number) for number in spread(by_rule(40))]:
                with self.subTest(way=way.__name__, thing=thing):
                    self.assertEqual(back(way(thing)), thing)

    def test_the_number_and_the_size_stay(self):
        for way, one, other in WAYS:
            for size in (0, 1, 2, 13, 40):
                for number in spread(by_rule(size)):
                    told = way(FAMILY[one.word]().thing_of(size, number))
                    family = FAMILY[other.word]()
                    self.assertTrue(family.is_one(told))
                    self.assertEqual(family.size_of(told), size)
                    self.assertEqual(family.number_of(told), number)

    def test_as_the_document_tells_the_ways_from_brackets(self):
        texts = [text for things in BRACKETS.in_order(6) for text in things]
        for text in texts + [Brackets().thing_of(40, number) for number in spread(by_rule(40))]:
            places = [place for place, sign in enumerate(text) if sign == "("]
            ends = closing_places(text)
            self.assertEqual(brackets_to_stairs(text), [text[:place].count(")") for place in places])
            self.assertEqual(brackets_to_bows(text), list(zip(places, ends)))
            self.assertEqual(brackets_to_turns(text), [ends.index(end) for end in sorted(ends)])
            rooms = [sorted(ends.index(end) for end, _ in run) for sign, run in
                     itertools.groupby(enumerate(text), key=lambda one: one[1]) if sign == ")"]
            self.assertEqual(brackets_to_rooms(text), sorted(rooms))

    def test_written_ones(self):
        self.assertEqual(brackets_to_stairs("(()())()"), [0, 0, 1, 3])
        self.assertEqual(brackets_to_bows("(()())()"), [(0, 5), (1, 2), (3, 4), (6, 7)])
        self.assertEqual(brackets_to_rooms("(()())()"), [[0, 2], [1], [3]])
        self.assertEqual(brackets_to_turns("(()())()"), [1, 2, 0, 3])
        self.assertEqual(brackets_to_twins("(()())()"), (((), ((), ())), ((), ())))
        self.assertEqual(twins_to_floor((((), ((), ())), ((), ()))), (6, [(0, 3), (1, 3), (3, 5)]))

    def test_size_0_and_size_1(self):
        bare = {"brackets": "", "stairs": [], "bows": [], "rooms": [], "turns": [], "twins": (), "floor": (2, [])}
        ones = {"brackets": "()", "stairs": [0], "bows": [(0, 1)], "rooms": [[0]], "turns": [0], "twins": ((), ()),
                "floor": (3, [])}
        for way, one, other in WAYS:
            self.assertEqual(way(bare[one.word]), bare[other.word])
            self.assertEqual(way(ones[one.word]), ones[other.word])

    def test_what_is_not_one_of_the_first_family(self):
        for way, one, _ in WAYS:
            for thing in one.wrong:
                with self.subTest(way=way.__name__, thing=thing):
                    self.assertRaises(NoThing, way, thing)

    def test_few_calls_within_one_another(self):
        for way, one, other in WAYS:
            for number in (0, by_rule(40) - 1):
                thing = FAMILY[one.word]().thing_of(40, number)
                self.assertEqual(with_few_frames(lambda: way(thing)), FAMILY[other.word]().thing_of(40, number))

    def test_nothing_is_changed_and_what_is_told_is_the_askers_own(self):
        for way, one, _ in WAYS:
            for thing in [thing for ones in one.in_order(4) for thing in ones]:
                with self.subTest(way=way.__name__, thing=thing):
                    self.check_own(way, thing)


if __name__ == "__main__":
    unittest.main()
