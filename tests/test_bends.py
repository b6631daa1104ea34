"""Points 8, 9, 14 and 15: bows and rooms."""

import unittest

from byhand import BOWS, ROOMS
from checks import SplitChecks
from countkin.bends import Bows, Rooms


class BowsTest(SplitChecks, unittest.TestCase):
    hand = BOWS
    made = Bows

    def first(self, size):
        return [(2 * k, 2 * k + 1) for k in range(size)]

    def last(self, size):
        return [(k, 2 * size - 1 - k) for k in range(size)]

    def test_written_ones(self):
        self.assertEqual([Bows().thing_of(3, number) for number in range(5)],
                         [[(0, 1), (2, 3), (4, 5)], [(0, 1), (2, 5), (3, 4)], [(0, 3), (1, 2), (4, 5)],
                          [(0, 5), (1, 2), (3, 4)], [(0, 5), (1, 4), (2, 3)]])
        self.assertEqual(Bows().parted([(0, 3), (1, 2), (4, 7), (5, 6)]), ([(0, 1)], [(0, 3), (1, 2)]))


class RoomsTest(SplitChecks, unittest.TestCase):
    hand = ROOMS
    made = Rooms

    def first(self, size):
        return [[k] for k in range(size)]

    def last(self, size):
        return [list(range(size))] if size else []

    def test_written_ones(self):
        self.assertEqual([Rooms().thing_of(3, number) for number in range(5)],
                         [[[0], [1], [2]], [[0], [1, 2]], [[0, 1], [2]], [[0, 2], [1]], [[0, 1, 2]]])
        self.assertEqual(Rooms().parted([[0, 3], [1, 2], [4]]), ([[0, 1], [2]], [[0]]))
        self.assertEqual(Rooms().parted([[0], [1]]), ([], [[0]]))
        self.assertEqual(Rooms().joined([[0], [1, 4], [2, 3]], [[0]]), [[0, 2, 5], [1], [3, 4], [6]])

    def test_rooms_that_cross_far_apart(self):
        self.assertFalse(Rooms().is_one([[0, 1, 20, 21], [2], [3, 22]] + [[k] for k in range(4, 20)]))
        self.assertTrue(Rooms().is_one([[0, 1, 20, 21], [2], [3, 19]] + [[k] for k in range(4, 19)]))
        self.assertTrue(Rooms().is_one([[0, 39]] + [[k] for k in range(1, 39)]))


if __name__ == "__main__":
    unittest.main()
