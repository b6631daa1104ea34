"""Point 33: leaves and rootage of the three, against their definitions."""

import unittest

import markhands
from checks import OwnChecks, spread
from countkin import ringmarks
from countkin.counts import ring_many
from countkin.elders import tree_to_code
from countkin.names import family_of
from countkin.queues import tree_to_cars


class RingMarksTest(OwnChecks, unittest.TestCase):
    def measures(self):
        for word in ("codes", "trees", "cars"):
            for name in ("leaves", "rootage"):
                yield family_of(word), name, getattr(ringmarks, f"{word}_{name}")

    def test_all_small_sizes(self):
        for family, name, measure in self.measures():
            for size in range(1, 6):
                for number in range(ring_many(size)):
                    thing = family.thing_of(size, number)
                    with self.subTest(word=family.word, name=name, thing=thing):
                        self.assertEqual(measure(thing), markhands.by_hand(family.word, name)(thing))

    def test_size_40(self):
        for family, name, measure in self.measures():
            for number in spread(ring_many(40)):
                thing = family.thing_of(40, number)
                with self.subTest(word=family.word, name=name, number=number):
                    self.assertEqual(measure(thing), markhands.by_hand(family.word, name)(thing))

    def test_size_1(self):
        for family, name, measure in self.measures():
            self.assertEqual(measure(family.thing_of(1, 0)), 1)

    def test_written_ones(self):
        tree = [3, 3, 0, 3, 2]
        self.assertEqual(ringmarks.trees_leaves(tree), 3)
        self.assertEqual(ringmarks.trees_rootage(tree), 1)
        self.assertEqual(ringmarks.codes_leaves([3, 3, 2, 3]), 3)
        self.assertEqual(ringmarks.codes_rootage([3, 3, 2, 3]), 1)
        self.assertEqual(ringmarks.codes_rootage([0, 3, 0, 5]), 3)
        self.assertEqual(ringmarks.cars_leaves([1, 1, 0, 1, 3]), 3)
        self.assertEqual(ringmarks.cars_rootage([1, 1, 0, 1, 3]), 1)

    def test_trees_carry_them_to_codes_and_cars(self):
        for size in range(1, 6):
            for number in range(ring_many(size)):
                tree = family_of("trees").thing_of(size, number)
                for name in ("leaves", "rootage"):
                    told = getattr(ringmarks, f"trees_{name}")(tree)
                    self.assertEqual(getattr(ringmarks, f"codes_{name}")(tree_to_code(tree)), told)
                    self.assertEqual(getattr(ringmarks, f"cars_{name}")(tree_to_cars(tree)), told)

    def test_nothing_is_changed(self):
        for family, name, measure in self.measures():
            for number in range(ring_many(3)):
                self.check_own(measure, family.thing_of(3, number))


if __name__ == "__main__":
    unittest.main()
