"""Point 32: peaks and returns of the seven, against their definitions."""

import unittest

import markhands
from byhand import SPLIT_HANDS
from checks import OwnChecks, spread, with_few_frames
from countkin import splitmarks
from countkin.counts import by_rule
from countkin.names import family_of

# Of the thing (()())() and what it is led to.
SAMPLES = {
    "brackets": "(()())()", "stairs": [0, 0, 1, 3], "twins": (((), ((), ())), ((), ())),
    "bows": [(0, 5), (1, 2), (3, 4), (6, 7)], "rooms": [[0, 2], [1], [3]], "floor": (6, [(0, 3), (1, 3), (3, 5)]),
    "turns": [1, 2, 0, 3],
}


class SplitMarksTest(OwnChecks, unittest.TestCase):
    def measures(self):
        for hand in SPLIT_HANDS:
            for name in ("peaks", "returns"):
                yield hand, name, getattr(splitmarks, f"{hand.word}_{name}")

    def test_all_small_sizes(self):
        for hand, name, measure in self.measures():
            for things in hand.in_order(7):
                for thing in things:
                    with self.subTest(word=hand.word, name=name, thing=thing):
                        self.assertEqual(measure(thing), markhands.by_hand(hand.word, name)(thing))

    def test_size_40(self):
        for hand, name, measure in self.measures():
            for number in spread(by_rule(40)):
                thing = family_of(hand.word).thing_of(40, number)
                with self.subTest(word=hand.word, name=name, number=number):
                    told = with_few_frames(lambda: measure(thing))
                    self.assertEqual(told, markhands.by_hand(hand.word, name)(thing))

    def test_first_and_last_of_size_40(self):
        for hand, name, measure in self.measures():
            self.assertEqual(measure(family_of(hand.word).thing_of(40, 0)), 40)
            self.assertEqual(measure(family_of(hand.word).thing_of(40, by_rule(40) - 1)), 1)

    def test_0_for_size_0(self):
        for hand, name, measure in self.measures():
            self.assertEqual(measure(hand.bare()), 0)

    def test_written_ones(self):
        for hand, name, measure in self.measures():
            with self.subTest(word=hand.word, name=name):
                self.assertEqual(measure(SAMPLES[hand.word]), {"peaks": 3, "returns": 2}[name])

    def test_nothing_is_changed(self):
        for hand, name, measure in self.measures():
            for thing in hand.in_order(4)[4]:
                self.check_own(measure, thing)


if __name__ == "__main__":
    unittest.main()
