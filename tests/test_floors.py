"""Points 8, 9 and 16: floors."""

import unittest

from byhand import FLOORS
from checks import SplitChecks
from countkin.floors import Floors


class FloorsTest(SplitChecks, unittest.TestCase):
    hand = FLOORS
    made = Floors

    def first(self, size):
        return (size + 2, [(k, size + 1) for k in range(1, size)])

    def last(self, size):
        return (size + 2, [(0, k) for k in range(2, size + 1)])

    def test_written_ones(self):
        self.assertEqual([Floors().thing_of(3, number) for number in range(5)],
                         [(5, [(1, 4), (2, 4)]), (5, [(1, 3), (1, 4)]), (5, [(0, 2), (2, 4)]),
                          (5, [(0, 3), (1, 3)]), (5, [(0, 2), (0, 3)])])
        self.assertEqual(Floors().thing_of(1, 0), (3, []))
        self.assertEqual(Floors().parted((3, [])), ((2, []), (2, [])))
        self.assertEqual(Floors().parted((6, [(0, 3), (1, 3), (3, 5)])), ((4, [(1, 3)]), (3, [])))


if __name__ == "__main__":
    unittest.main()
