"""Points 8, 9 and 13: what the families by splitting have in common, with small families of the test's own."""

import copy
import unittest

from checks import with_few_frames
from countkin.counts import by_rule
from countkin.errors import NoNumber, NoSize, NoThing
from countkin.kin import Family, SplitFamily, by_parts


class Plus(SplitFamily):
    """Texts: . for the bare one, else + and the left part and the right part."""

    def __init__(self):
        SplitFamily.__init__(self, "plus")

    def size_of(self, thing):
        return thing.count("+")

    def is_one(self, thing):
        return first_end(thing) == len(thing)

    def bare(self):
        return "."

    def parted(self, thing):
        end = 1 + first_end(thing[1:])
        return (thing[1:end], thing[end:])

    def joined(self, left, right):
        return "+" + left + right


class Depths(SplitFamily):
    """Lists of whole numbers: [] for the bare one, else the left part one deeper, 0, the right part one deeper."""

    def __init__(self):
        SplitFamily.__init__(self, "depths")

    def size_of(self, thing):
        return len(thing)

    def is_one(self, thing):
        if thing == []:
            return True
        if thing.count(0) != 1 or min(thing) < 0:
            return False
        left, right = self.parted(thing)
        return self.is_one(left) and self.is_one(right)

    def bare(self):
        return []

    def parted(self, thing):
        place = thing.index(0)
        return ([one - 1 for one in thing[:place]], [one - 1 for one in thing[place + 1:]])

    def joined(self, left, right):
        return [one + 1 for one in left] + [0] + [one + 1 for one in right]


class Pairs(SplitFamily):
    """Lists of two lists, so that a told thing has lists within it."""

    def __init__(self):
        SplitFamily.__init__(self, "pairs")

    def size_of(self, thing):
        return 0 if thing == [] else 1 + self.size_of(thing[0]) + self.size_of(thing[1])

    def is_one(self, thing):
        return thing == [] or (len(thing) == 2 and self.is_one(thing[0]) and self.is_one(thing[1]))

    def bare(self):
        return []

    def parted(self, thing):
        return (copy.deepcopy(thing[0]), copy.deepcopy(thing[1]))

    def joined(self, left, right):
        return [copy.deepcopy(left), copy.deepcopy(right)]


class Rows(Family):
    """A family that is not told by splitting, from size 1 on: as many as its size."""

    def __init__(self):
        Family.__init__(self, "rows", 1)

    def size_of(self, thing):
        return thing[0]

    def is_one(self, thing):
        return 0 <= thing[1] < thing[0]

    def unchecked_many(self, size):
        return size

    def unchecked_number(self, thing):
        return thing[1]

    def unchecked_thing(self, size, number):
        return [size, number]


FAMILIES = [Plus, Depths, Pairs]
WRONG = {
    Plus: ["", "+", "+.", "..", "+..+", ".+.", "+...", "a", "+a.", "+" * 80, "." * 80],
    Depths: [[1], [0, 0], [-1], [0, 2], [1, 1, 0], [0, 1, 1], [10 ** 59], [-(10 ** 59), 0], [0] * 80],
    Pairs: [[[]], [[], [], []], [[], [[]]], [[[], [[]]], []]],
}
WRONG_SIZES = [-1, -2, 41, 42, 1000, 10 ** 59, -(10 ** 59), 10 ** 70 - 1, -(10 ** 70) + 1]
LAST = by_rule(40) - 1
NUMBERS = sorted({0, 1, LAST - 1, LAST} | {LAST * k // 23 for k in range(24)})


def first_end(text):
    """Where the first whole thing in a row of signs ends; -1 where none does."""
    due = 1
    for place, sign in enumerate(text):
        if sign not in "+.":
            return -1
        due += 1 if sign == "+" else -1
        if due == 0:
            return place + 1
    return -1


def in_order(family, most):
    """The lists of all things of each size up to most, in the order that point 9 tells."""
    found = [[family.bare()]]
    for size in range(1, most + 1):
        found.append([family.joined(left, right)
                      for i in range(size)
                      for left in found[i]
                      for right in found[size - 1 - i]])
    return found


def by_the_sum(family, thing):
    """A number as point 9 writes it, sum and all."""
    n = family.size_of(thing)
    if n == 0:
        return 0
    left, right = family.parted(thing)
    i = family.size_of(left)
    ahead = sum(by_rule(j) * by_rule(n - 1 - j) for j in range(i))
    return ahead + by_the_sum(family, left) * by_rule(n - 1 - i) + by_the_sum(family, right)


def comb(family, size, to_left):
    """The thing that goes on in one direction alone."""
    thing = family.bare()
    for _ in range(size):
        parts = (thing, family.bare()) if to_left else (family.bare(), thing)
        thing = family.joined(*parts)
    return thing


class MadeTest(unittest.TestCase):
    def test_family(self):
        family = Family("some word", 1)
        self.assertEqual((family.word, family.least), ("some word", 1))
        self.assertEqual(Family("", 0).least, 0)

    def test_split_family(self):
        family = SplitFamily("some word")
        self.assertEqual((family.word, family.least), ("some word", 0))
        self.assertIsInstance(family, Family)

    def test_those_under_it(self):
        for made in FAMILIES:
            self.assertEqual(made().word, made.__name__.lower())
            self.assertEqual(made().least, 0)


class ManyTest(unittest.TestCase):
    def test_every_size(self):
        for size in range(41):
            self.assertEqual(Plus().many(size), by_rule(size))

    def test_wrong_sizes(self):
        for size in WRONG_SIZES:
            with self.subTest(size=size):
                self.assertRaises(NoSize, Plus().many, size)

    def test_the_least_size_counts(self):
        self.assertEqual(Rows().many(1), 1)
        self.assertEqual(Rows().many(40), 40)
        self.assertRaises(NoSize, Rows().many, 0)
        self.assertRaises(NoSize, Rows().thing_of, 0, 0)
        self.assertRaises(NoSize, Rows().many, 41)


class NumberTest(unittest.TestCase):
    def test_all_small_sizes(self):
        for made in FAMILIES:
            family = made()
            for size, things in enumerate(in_order(family, 6)):
                self.assertEqual(len(things), family.many(size))
                for number, thing in enumerate(things):
                    with self.subTest(word=family.word, thing=thing):
                        self.assertEqual(family.number_of(thing), number)
                        self.assertEqual(family.thing_of(size, number), thing)
                        self.assertEqual(family.next_of(thing), (things + [None])[number + 1])

    def test_written_ones(self):
        self.assertEqual([Plus().thing_of(3, number) for number in range(5)],
                         ["+.+.+..", "+.++...", "++..+..", "++.+...", "+++...."])

    def test_the_bare_thing(self):
        for made in FAMILIES:
            family = made()
            self.assertEqual(family.number_of(family.bare()), 0)
            self.assertEqual(family.thing_of(0, 0), family.bare())
            self.assertIs(family.next_of(family.bare()), None)

    def test_size_40(self):
        for made in FAMILIES:
            family = made()
            for number in NUMBERS:
                with self.subTest(word=family.word, number=number):
                    thing = family.thing_of(40, number)
                    self.assertEqual(family.size_of(thing), 40)
                    self.assertTrue(family.is_one(thing))
                    self.assertEqual(by_the_sum(family, thing), number)
                    self.assertEqual(family.number_of(thing), number)

    def test_first_and_last_of_every_size(self):
        for made in FAMILIES:
            family = made()
            for size in range(41):
                with self.subTest(word=family.word, size=size):
                    first = comb(family, size, False)
                    last = comb(family, size, True)
                    self.assertEqual(family.number_of(first), 0)
                    self.assertEqual(family.thing_of(size, 0), first)
                    self.assertEqual(family.number_of(last), by_rule(size) - 1)
                    self.assertEqual(family.thing_of(size, by_rule(size) - 1), last)
                    self.assertIs(family.next_of(last), None)

    def test_next_of_size_40(self):
        for made in FAMILIES:
            family = made()
            for number in NUMBERS[:-1]:
                with self.subTest(word=family.word, number=number):
                    following = family.next_of(family.thing_of(40, number))
                    self.assertEqual(following, family.thing_of(40, number + 1))

    def test_a_family_that_is_not_told_by_splitting(self):
        self.assertEqual(Rows().thing_of(3, 2), [3, 2])
        self.assertEqual(Rows().number_of([3, 2]), 2)
        self.assertEqual(Rows().next_of([3, 1]), [3, 2])
        self.assertIs(Rows().next_of([3, 2]), None)
        self.assertRaises(NoNumber, Rows().thing_of, 3, 3)
        self.assertRaises(NoThing, Rows().number_of, [3, 3])

    def test_few_calls_within_one_another(self):
        last = "+" * 40 + "." * 41
        first = "+." * 40 + "."
        told = with_few_frames(lambda: [Plus().thing_of(40, 0), Plus().thing_of(40, LAST)])
        numbers = with_few_frames(lambda: [Plus().number_of(first), Plus().number_of(last)])
        led = with_few_frames(lambda: [by_parts(Plus(), Plus(), first), by_parts(Plus(), Plus(), last)])
        self.assertEqual((told, numbers, led), ([first, last], [0, LAST], [first, last]))


class RefusalTest(unittest.TestCase):
    def test_what_is_not_one_of_the_family(self):
        for made in FAMILIES:
            for thing in WRONG[made]:
                with self.subTest(word=made().word, thing=thing):
                    self.assertRaises(NoThing, made().number_of, thing)
                    self.assertRaises(NoThing, made().next_of, thing)

    def test_wrong_sizes(self):
        for size in WRONG_SIZES:
            with self.subTest(size=size):
                self.assertRaises(NoSize, Plus().thing_of, size, 0)

    def test_a_wrong_size_is_refused_ahead_of_a_wrong_number(self):
        for size in WRONG_SIZES:
            for number in (-1, 1, 10 ** 59, -(10 ** 59)):
                with self.subTest(size=size, number=number):
                    self.assertRaises(NoSize, Plus().thing_of, size, number)

    def test_wrong_numbers(self):
        for size in range(41):
            for number in (-1, -2, by_rule(size), by_rule(size) + 1, 10 ** 59, -(10 ** 59), 10 ** 70 - 1):
                with self.subTest(size=size, number=number):
                    self.assertRaises(NoNumber, Plus().thing_of, size, number)


class ByPartsTest(unittest.TestCase):
    def test_all_small_sizes(self):
        for one in FAMILIES:
            for other in FAMILIES:
                ones = in_order(one(), 6)
                others = in_order(other(), 6)
                for size in range(7):
                    led = [by_parts(one(), other(), thing) for thing in ones[size]]
                    self.assertEqual(led, others[size], (one, other))

    def test_written_ones(self):
        self.assertEqual(by_parts(Plus(), Depths(), "."), [])
        self.assertEqual(by_parts(Plus(), Depths(), "++..+.."), [1, 0, 1])
        self.assertEqual(by_parts(Plus(), Depths(), "++.+..."), [1, 2, 0])
        self.assertEqual(by_parts(Depths(), Plus(), [0, 2, 1]), "+.++...")

    def test_the_number_stays_at_size_40(self):
        for number in NUMBERS:
            with self.subTest(number=number):
                led = by_parts(Plus(), Depths(), Plus().thing_of(40, number))
                self.assertEqual(Depths().number_of(led), number)
                self.assertEqual(by_parts(Depths(), Plus(), led), Plus().thing_of(40, number))

    def test_the_same_object_twice(self):
        family = Depths()
        self.assertEqual(by_parts(family, family, [2, 1, 0, 1]), [2, 1, 0, 1])

    def test_what_is_not_one_of_the_first_family(self):
        for one in FAMILIES:
            for thing in WRONG[one]:
                for other in FAMILIES:
                    with self.subTest(word=one().word, thing=thing):
                        self.assertRaises(NoThing, by_parts, one(), other(), thing)


class OwnListsTest(unittest.TestCase):
    """Point 2: nothing handed in is changed, and what is told is the asker's own."""

    def test_nothing_handed_in_is_changed(self):
        for family in (Depths(), Pairs()):
            for thing in (family.thing_of(5, 30), family.bare(), family.thing_of(40, LAST // 3)):
                kept = copy.deepcopy(thing)
                family.number_of(thing)
                family.next_of(thing)
                by_parts(family, Plus(), thing)
                by_parts(family, family, thing)
                self.assertEqual(thing, kept)

    def test_a_told_list_that_is_changed_is_told_again_as_it_was(self):
        family = Pairs()
        told = family.thing_of(3, 4)
        told[0][0].append("changed")
        told.append("changed")
        self.assertEqual(family.thing_of(3, 4), [[[[], []], []], []])
        told = family.thing_of(0, 0)
        told.append("changed")
        self.assertEqual(family.thing_of(0, 0), [])

    def test_a_next_one_that_is_changed_is_told_again_as_it_was(self):
        family = Depths()
        told = family.next_of([0, 1])
        told.append(7)
        self.assertEqual(family.next_of([0, 1]), [1, 0])

    def test_what_is_led_home_is_a_new_list(self):
        family = Pairs()
        for thing in ([], [[], []], [[[], []], [[], []]]):
            kept = copy.deepcopy(thing)
            led = by_parts(family, family, thing)
            self.assertEqual(led, thing)
            led.append("changed")
            for part in led[:2]:
                if part != "changed":
                    part.append("changed")
            self.assertEqual(thing, kept)
            self.assertEqual(by_parts(family, family, thing), kept)

    def test_a_list_changed_by_the_asker_afterwards_changes_nothing(self):
        thing = [1, 0, 1]
        led = by_parts(Depths(), Pairs(), thing)
        thing[0] = 5
        self.assertEqual(led, [[[], []], [[], []]])
        self.assertEqual(Depths().thing_of(3, 2), [1, 0, 1])


if __name__ == "__main__":
    unittest.main()
