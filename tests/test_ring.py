"""Points 5, 20 and 21: what the families by rings have in common, and codes."""

import itertools
import unittest

from byhand import CODES
from checks import RingChecks, spread
from countkin.counts import ring_many
from countkin.ring import Codes, RingFamily


class RingFamilyTest(unittest.TestCase):
    def test_made_with_a_word(self):
        family = RingFamily("some word")
        self.assertEqual((family.word, family.least), ("some word", 1))


class CodesTest(RingChecks, unittest.TestCase):
    hand = CODES
    made = Codes

    def candidates(self, size):
        return [list(row) for row in itertools.product(range(size + 1), repeat=size - 1)]

    def code(self, thing):
        return list(thing)

    def test_the_one_code_of_size_1(self):
        self.assertEqual(Codes().many(1), 1)
        self.assertIs(Codes().is_one([]), True)
        self.assertEqual(Codes().size_of([]), 1)
        self.assertEqual(Codes().number_of([]), 0)
        self.assertEqual(Codes().thing_of(1, 0), [])
        self.assertIs(Codes().next_of([]), None)

    def test_written_ones(self):
        self.assertEqual([Codes().thing_of(2, number) for number in range(3)], [[0], [1], [2]])
        self.assertEqual(Codes().number_of([3, 0, 1]), 3 * 25 + 1)
        self.assertEqual(Codes().thing_of(4, 124), [4, 4, 4])
        self.assertEqual(Codes().next_of([0, 3]), [1, 0])

    def test_size_40_is_a_row_of_figures(self):
        for number in spread(ring_many(40)):
            figures = []
            rest = number
            for _ in range(39):
                figures.insert(0, rest % 41)
                rest //= 41
            self.assertEqual(Codes().thing_of(40, number), figures)


if __name__ == "__main__":
    unittest.main()
