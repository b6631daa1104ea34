"""Point 28: the five mirrors."""

import unittest

from byhand import BOWS, BRACKETS, FLOORS, TURNS, TWINS
from checks import OwnChecks, spread, with_few_frames
from countkin.bends import Bows
from countkin.counts import by_rule
from countkin.errors import NoThing
from countkin.floors import Floors
from countkin.mirrors import bows_mirror, brackets_mirror, floor_mirror, turns_mirror, twins_mirror
from countkin.rows import Turns
from countkin.signs import Brackets
from countkin.twigs import Twins


def brackets_by_hand(thing):
    return thing[::-1].replace("(", "<").replace(")", "(").replace("<", ")")


def pairs_by_hand(pairs, new):
    return sorted(tuple(sorted((new[a], new[b]))) for a, b in pairs)


def bows_by_hand(thing):
    n = len(thing)
    return pairs_by_hand(thing, {a: 2 * n - 1 - a for a in range(2 * n)})


def twins_by_hand(thing):
    return () if thing == () else (twins_by_hand(thing[1]), twins_by_hand(thing[0]))


def floor_by_hand(thing):
    n = thing[0] - 2
    return (thing[0], pairs_by_hand(thing[1], {k: n + 1 - k for k in range(n + 2)}))


def turns_by_hand(thing):
    n = len(thing)
    held = {n - 1 - thing[k]: n - 1 - k for k in range(n)}
    return [held[place] for place in range(n)]


MIRRORS = [
    (brackets_mirror, brackets_by_hand, BRACKETS, Brackets), (bows_mirror, bows_by_hand, BOWS, Bows),
    (twins_mirror, twins_by_hand, TWINS, Twins), (floor_mirror, floor_by_hand, FLOORS, Floors),
    (turns_mirror, turns_by_hand, TURNS, Turns),
]


class MirrorsTest(OwnChecks, unittest.TestCase):
    def samples(self):
        for mirror, by_hand, hand, made in MIRRORS:
            things = [thing for things in hand.in_order(6) for thing in things]
            for thing in things + [made().thing_of(40, number) for number in spread(by_rule(40))]:
                yield mirror, by_hand, hand, thing

    def test_as_the_document_tells(self):
        for mirror, by_hand, _, thing in self.samples():
            with self.subTest(mirror=mirror.__name__, thing=thing):
                self.assertEqual(mirror(thing), by_hand(thing))

    def test_each_is_its_own_back(self):
        for mirror, _, _, thing in self.samples():
            with self.subTest(mirror=mirror.__name__, thing=thing):
                self.assertEqual(mirror(mirror(thing)), thing)

    def test_each_tells_one_of_its_family(self):
        for mirror, _, hand, thing in self.samples():
            with self.subTest(mirror=mirror.__name__, thing=thing):
                self.assertTrue(hand.is_one(mirror(thing)))
                self.assertEqual(hand.size(mirror(thing)), hand.size(thing))

    def test_written_ones(self):
        self.assertEqual(brackets_mirror("(()())()"), "()(()())")
        self.assertEqual(bows_mirror([(0, 5), (1, 2), (3, 4), (6, 7)]), [(0, 1), (2, 7), (3, 4), (5, 6)])
        self.assertEqual(twins_mirror((((), ()), ())), ((), ((), ())))
        self.assertEqual(floor_mirror((6, [(0, 3), (1, 3), (3, 5)])), (6, [(0, 2), (2, 4), (2, 5)]))
        self.assertEqual(turns_mirror([1, 2, 0, 3]), [0, 2, 3, 1])
        self.assertEqual(turns_mirror([0, 2, 1]), [1, 0, 2])

    def test_size_0_and_size_1(self):
        for mirror, things in ((brackets_mirror, ("", "()")), (bows_mirror, ([], [(0, 1)])), (turns_mirror, ([], [0])),
                               (twins_mirror, ((), ((), ()))), (floor_mirror, ((2, []), (3, [])))):
            for thing in things:
                self.assertEqual(mirror(thing), thing)

    def test_what_is_not_one_of_the_family(self):
        for mirror, _, hand, _ in MIRRORS:
            for thing in hand.wrong:
                with self.subTest(mirror=mirror.__name__, thing=thing):
                    self.assertRaises(NoThing, mirror, thing)

    def test_few_calls_within_one_another(self):
        for mirror, by_hand, _, made in MIRRORS:
            for number in (0, by_rule(40) - 1):
                thing = made().thing_of(40, number)
                self.assertEqual(with_few_frames(lambda: mirror(thing)), by_hand(thing))

    def test_what_is_told_is_the_askers_own(self):
        for mirror, _, hand, _ in MIRRORS:
            for thing in [thing for things in hand.in_order(4) for thing in things]:
                self.check_own(mirror, thing)


if __name__ == "__main__":
    unittest.main()
