"""Points 32, 33 and 34: height, and the marks by their names."""

import unittest

import markhands
from byhand import BOWS, BRACKETS, CARS, CODES, FLOORS, ROOMS, SIGNS, STAIRS, TREES, TURNS, TWINS
from checks import OwnChecks, spread, with_few_frames
from countkin import tallmarks
from countkin.errors import NoFamily, NoMark, NoThing
from countkin.marks import mark, marks_of
from countkin.names import families, family_of

HANDS = [BRACKETS, STAIRS, TWINS, BOWS, ROOMS, FLOORS, TURNS, CODES, TREES, CARS]
NAMES = ["peaks", "returns", "height", "leaves", "rootage"]


def wrong_names():
    """Texts near the marks' names, and some others."""
    found = ["", " ", "Peaks", "mark", "size", "peaks returns", "x" * 60, "peaks,returns", "number_of"]
    for name in NAMES:
        found += [name + " ", " " + name, name.upper(), name + name]
        for k in range(len(name) + 1):
            found.append(name[:k] + name[k + 1:])
            for sign in SIGNS[::7]:
                found += [name[:k] + sign + name[k:], name[:k] + sign + name[k + 1:]]
    return [name for name in found if name not in NAMES]


def things_of(word, most, large=True):
    """All things of a family up to a size, and some of size 40."""
    family = family_of(word)
    most = min(most, 5) if family.least == 1 else most
    found = [family.thing_of(size, number) for size in range(family.least, most + 1)
             for number in range(family.many(size))]
    if large:
        found += [family.thing_of(40, number) for number in spread(family.many(40))]
    return found


class HeightTest(unittest.TestCase):
    def test_against_the_definitions(self):
        for word in ("brackets", "stairs", "twins", "bows", "turns"):
            measure = getattr(tallmarks, f"{word}_height")
            for thing in things_of(word, 7):
                with self.subTest(word=word, thing=thing):
                    told = with_few_frames(lambda: measure(thing))
                    self.assertEqual(told, markhands.by_hand(word, "height")(thing))

    def test_first_and_last_of_size_40(self):
        for word in ("brackets", "stairs", "twins", "bows", "turns"):
            family = family_of(word)
            self.assertEqual(mark(word, "height", family.thing_of(40, 0)), 1)
            self.assertEqual(mark(word, "height", family.thing_of(40, family.many(40) - 1)), 40)


class MarksOfTest(OwnChecks, unittest.TestCase):
    def test_every_family(self):
        self.assertEqual(list(markhands.MARKS), families())
        for word, names in markhands.MARKS.items():
            self.assertEqual(marks_of(word), names)
            self.check_own(marks_of, word)

    def test_no_family(self):
        for word in ("", "floors", "Brackets", "brackets ", " brackets", "rings", "peaks", "x" * 60):
            with self.subTest(word=word):
                self.assertRaises(NoFamily, marks_of, word)
                self.assertRaises(NoFamily, mark, word, "peaks", "()")


class MarkTest(OwnChecks, unittest.TestCase):
    def test_against_the_definitions(self):
        for word, names in markhands.MARKS.items():
            for name in names:
                for thing in things_of(word, 6):
                    with self.subTest(word=word, name=name, thing=thing):
                        self.assertEqual(mark(word, name, thing), markhands.by_hand(word, name)(thing))

    def test_0_for_size_0(self):
        for word, names in markhands.MARKS.items():
            family = family_of(word)
            if family.least == 0:
                for name in names:
                    self.assertEqual(mark(word, name, family.bare()), 0)

    def test_written_ones(self):
        self.assertEqual([mark("brackets", name, "(()())()") for name in marks_of("brackets")], [3, 2, 2])
        self.assertEqual([mark("turns", name, [2, 1, 0, 3]) for name in marks_of("turns")], [2, 2, 3])
        self.assertEqual([mark("trees", name, [3, 3, 0, 3, 2]) for name in marks_of("trees")], [3, 1])

    def test_a_mark_of_another_family(self):
        for word, names in markhands.MARKS.items():
            thing = family_of(word).thing_of(3, 2)
            for name in NAMES:
                if name not in names:
                    with self.subTest(word=word, name=name):
                        self.assertRaises(NoMark, mark, word, name, thing)

    def test_no_mark(self):
        for name in wrong_names():
            with self.subTest(name=name):
                self.assertRaises(NoMark, mark, "brackets", name, "()")
                self.assertRaises(NoMark, mark, "codes", name, [])

    def test_what_is_not_one_of_the_family(self):
        for hand in HANDS:
            for thing in hand.wrong:
                for name in markhands.MARKS[hand.word]:
                    with self.subTest(word=hand.word, name=name, thing=thing):
                        self.assertRaises(NoThing, mark, hand.word, name, thing)

    def test_the_order_of_refusals(self):
        self.assertRaises(NoFamily, mark, "floors", "heights", (1, []))
        self.assertRaises(NoFamily, mark, "floors", "peaks", (1, []))
        self.assertRaises(NoFamily, mark, "floors", "heights", (2, []))
        for hand in HANDS:
            for thing in hand.wrong[:5]:
                self.assertRaises(NoMark, mark, hand.word, "width", thing)
        self.assertRaises(NoMark, mark, "floor", "height", (1, []))
        self.assertRaises(NoMark, mark, "trees", "peaks", [])

    def test_nothing_is_changed(self):
        for word, names in markhands.MARKS.items():
            for thing in things_of(word, 3, large=False):
                for name in names:
                    self.check_own(lambda handed: mark(word, name, handed), thing)


if __name__ == "__main__":
    unittest.main()
