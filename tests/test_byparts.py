"""Point 13: things led by parts between any two families by splitting, the same one too."""

import copy
import unittest

from byhand import SPLIT_HANDS
from checks import OwnChecks, spread, with_few_frames
from countkin.bends import Bows, Rooms
from countkin.counts import by_rule
from countkin.errors import NoThing
from countkin.floors import Floors
from countkin.kin import by_parts
from countkin.rows import Turns
from countkin.signs import Brackets, Stairs
from countkin.twigs import Twins

MADE = [Brackets, Stairs, Twins, Bows, Rooms, Floors, Turns]


class ByPartsTest(OwnChecks, unittest.TestCase):
    def pairs(self):
        for one, one_hand in zip(MADE, SPLIT_HANDS):
            for other, other_hand in zip(MADE, SPLIT_HANDS):
                yield one(), one_hand, other(), other_hand

    def test_all_small_sizes(self):
        for one, one_hand, other, other_hand in self.pairs():
            for ones, others in zip(one_hand.in_order(6), other_hand.in_order(6)):
                with self.subTest(one=one.word, other=other.word):
                    self.assertEqual([by_parts(one, other, thing) for thing in ones], others)

    def test_the_number_stays_at_size_40(self):
        for one, _, other, _ in self.pairs():
            for number in spread(by_rule(40)):
                with self.subTest(one=one.word, other=other.word, number=number):
                    thing = one.thing_of(40, number)
                    led = by_parts(one, other, thing)
                    self.assertEqual(led, other.thing_of(40, number))
                    self.assertEqual(by_parts(other, one, led), thing)

    def test_written_ones(self):
        row = ["(()())()", [0, 0, 1, 3], (((), ((), ())), ((), ())), [(0, 5), (1, 2), (3, 4), (6, 7)], [[0, 2], [1], [3]],
               (6, [(0, 3), (1, 3), (3, 5)]), [1, 2, 0, 3]]
        for one, first in zip(MADE, row):
            for other, second in zip(MADE, row):
                self.assertEqual(by_parts(one(), other(), first), second)

    def test_the_same_object_twice(self):
        for made, hand in zip(MADE, SPLIT_HANDS):
            family = made()
            for thing in hand.in_order(4)[4]:
                self.assertEqual(by_parts(family, family, thing), thing)

    def test_what_is_not_one_of_the_first_family(self):
        for one, one_hand, other, _ in self.pairs():
            for thing in one_hand.wrong:
                with self.subTest(one=one.word, other=other.word, thing=thing):
                    self.assertRaises(NoThing, by_parts, one, other, thing)

    def test_few_calls_within_one_another(self):
        for one, _, other, _ in self.pairs():
            for number in (0, by_rule(40) - 1):
                thing = one.thing_of(40, number)
                led = with_few_frames(lambda: by_parts(one, other, thing))
                self.assertEqual(led, other.thing_of(40, number))

    def test_nothing_is_changed_and_what_is_told_is_the_askers_own(self):
        for one, one_hand, other, _ in self.pairs():
            things = [thing for ones in one_hand.in_order(4) for thing in ones]
            for thing in things + [one.thing_of(40, by_rule(40) // 3)]:
                with self.subTest(one=one.word, other=other.word, thing=thing):
                    self.check_own(lambda handed: by_parts(one, other, handed), thing)

    def test_a_list_changed_by_the_asker_afterwards_changes_nothing(self):
        thing = [[0, 2], [1], [3]]
        led = by_parts(Rooms(), Rooms(), thing)
        kept = copy.deepcopy(led)
        thing[0].append(7)
        thing.pop()
        self.assertEqual(led, kept)


if __name__ == "__main__":
    unittest.main()
