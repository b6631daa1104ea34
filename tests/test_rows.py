"""Points 8, 9 and 17: turns."""

import unittest

from byhand import TURNS
from checks import SplitChecks
from countkin.rows import Turns


class TurnsTest(SplitChecks, unittest.TestCase):
    hand = TURNS
    made = Turns

    def first(self, size):
        return list(range(size))

    def last(self, size):
        return list(range(size - 1, -1, -1))

    def test_written_ones(self):
        self.assertEqual([Turns().thing_of(3, number) for number in range(5)],
                         [[0, 1, 2], [0, 2, 1], [1, 0, 2], [1, 2, 0], [2, 1, 0]])
        self.assertEqual(Turns().parted([1, 2, 0, 4, 3]), ([0, 1], [1, 0]))
        self.assertIs(Turns().is_one([2, 0, 1]), False)

    def test_three_that_stand_far_apart(self):
        row = list(range(1, 39))
        self.assertIs(Turns().is_one([39, 0] + row), False)
        self.assertIs(Turns().is_one([39] + row[::-1] + [0]), True)
        self.assertIs(Turns().is_one(row + [39, 0]), True)
        self.assertIs(Turns().is_one(row[1:] + [39, 0, 1]), False)


if __name__ == "__main__":
    unittest.main()
