"""Points 8, 9 and 12: twins."""

import unittest

from byhand import TWINS
from checks import SplitChecks
from countkin.twigs import Twins


class TwinsTest(SplitChecks, unittest.TestCase):
    hand = TWINS
    made = Twins

    def first(self, size):
        thing = ()
        for _ in range(size):
            thing = ((), thing)
        return thing

    def last(self, size):
        thing = ()
        for _ in range(size):
            thing = (thing, ())
        return thing

    def test_written_ones(self):
        one = ((), ())
        self.assertEqual([Twins().thing_of(3, number) for number in range(5)],
                         [((), ((), one)), ((), (one, ())), (one, one), (((), one), ()), ((one, ()), ())])
        self.assertEqual(Twins().parted((one, ((), one))), (one, ((), one)))

    def test_pairs_count_as_often_as_they_come(self):
        thing = ()
        for size in (1, 3, 7, 15, 31):
            thing = (thing, thing)
            self.assertEqual(Twins().size_of(thing), size)
            self.assertEqual(Twins().thing_of(size, Twins().number_of(thing)), thing)


if __name__ == "__main__":
    unittest.main()
