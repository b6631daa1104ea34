"""Checks that hold of every family, to be mixed into the tests of each; and small helpers of the tests."""

import copy
import itertools
import sys

from byhand import BIG, HUGE
from countkin.counts import by_rule
from countkin.errors import NoNumber, NoSize, NoThing
from countkin.kin import Family, SplitFamily
from countkin.ring import RingFamily

FAR_SIZES = [10 ** 59, -(10 ** 59), 10 ** 70 - 1, -(10 ** 70) + 1]
WRONG_NUMBERS = [-1, -2, HUGE, -HUGE, -BIG, 10 ** 69, 10 ** 70 - 1, -(10 ** 70) + 1]


def lists_in(value):
    """All lists that a value is or holds, however deep."""
    found = [value] if isinstance(value, list) else []
    if isinstance(value, (list, tuple)):
        for one in value:
            found.extend(lists_in(one))
    return found


def spoil(value):
    """Changes every list that a value is or holds."""
    for one in lists_in(value):
        one.append("spoiled")


def near(value):
    """Values of the same kind that lie near a value: a number, a sign or a member more, less or exchanged."""
    if isinstance(value, str):
        for k in range(len(value) + 1):
            yield value[:k] + value[k + 1:]
            for sign in "() a":
                yield value[:k] + sign + value[k:]
                yield value[:k] + sign + value[k + 1:]
    elif isinstance(value, int):
        yield from (value + step for step in (-2, -1, 1, 2))
        yield from (BIG, -HUGE)
    elif isinstance(value, tuple):
        for k, one in enumerate(value):
            for other in near(one):
                yield value[:k] + (other,) + value[k + 1:]
        if all(isinstance(one, int) for one in value):
            yield value[::-1]
    else:
        for k, one in enumerate(value):
            yield value[:k] + value[k + 1:]
            yield value[:k] + [copy.deepcopy(one)] + value[k:]
            yield value[:k] + value[k + 1:k + 2] + [one] + value[k + 2:]
            for other in near(one):
                yield value[:k] + [other] + value[k + 1:]


def near_in_kind(hand, thing):
    """What lies near a thing; of floors only what has no more corners than the kind lets be."""
    for other in near(thing):
        if hand.word != "floor" or other[0] <= 999:
            yield other


def frames():
    depth = 0
    frame = sys._getframe()
    while frame:
        depth += 1
        frame = frame.f_back
    return depth


def with_few_frames(call):
    """What a call answers where not much more than a hundred calls may stand within one another."""
    limit = sys.getrecursionlimit()
    sys.setrecursionlimit(frames() + 120)
    try:
        return call()
    finally:
        sys.setrecursionlimit(limit)


def spread(many):
    """Numbers spread over all below many, the first two and the last two among them."""
    return sorted({0, min(1, many - 1), max(0, many - 2), many - 1} | {(many - 1) * k // 17 for k in range(18)})


class OwnChecks:
    """Point 2, asked of any call."""

    def check_own(self, call, *handed):
        """Nothing handed in is changed, and each list that is told is new and the asker's own."""
        kept = copy.deepcopy(handed)
        told = call(*handed)
        self.assertEqual(handed, kept)
        again = call(*handed)
        self.assertEqual(told, again)
        lists = lists_in(told) + lists_in(again)
        for one, other in itertools.combinations(lists, 2):
            self.assertIsNot(one, other)
        for one in lists_in(handed):
            for other in lists:
                self.assertIsNot(one, other)
        spoil(told)
        self.assertEqual(handed, kept)
        self.assertEqual(call(*handed), again)


class FamilyChecks(OwnChecks):
    """What holds of each of the ten. A test sets hand and made, and tells things(size) and many(size)."""

    hand = None
    made = None
    most = 6

    def all_sizes(self):
        return range(self.made().least, self.most + 1)

    def wrong_sizes(self):
        return [self.made().least - 1, self.made().least - 2, -2, 41, 42, 1000] + FAR_SIZES

    def large(self):
        """Things of size 40 with their numbers."""
        return [(number, self.made().thing_of(40, number)) for number in spread(self.many(40))]

    def test_word(self):
        self.assertEqual(self.made().word, self.hand.word)

    def test_many(self):
        for size in range(self.made().least, 41):
            self.assertEqual(self.made().many(size), self.many(size))

    def test_number_and_thing_of_small_sizes(self):
        family = self.made()
        for size in self.all_sizes():
            things = self.things(size)
            self.assertEqual(len(things), self.many(size))
            for number, thing in enumerate(things):
                with self.subTest(thing=thing):
                    self.assertEqual(family.size_of(thing), size)
                    self.assertIs(family.is_one(thing), True)
                    self.assertEqual(family.number_of(thing), number)
                    self.assertEqual(family.thing_of(size, number), thing)
                    self.assertEqual(family.next_of(thing), (things + [None])[number + 1])

    def test_is_one_lets_by_just_what_the_definition_does(self):
        family = self.made()
        good = []
        for value in self.hand.small():
            wanted = self.hand.is_one(value)
            if family.is_one(value) is not wanted:
                self.fail(f"{value!r} {wanted}")
            if wanted and value not in good:
                good.append(value)
        for size in self.all_sizes():
            found = [value for value in good if self.hand.size(value) == size]
            if size <= 3:
                self.assertEqual(len(found), self.many(size))
            things = self.things(size)
            for value in found:
                self.assertIn(value, things)

    def test_is_one_near_things_of_the_family(self):
        family = self.made()
        near_ones = [thing for size in self.all_sizes() if size < 5 for thing in self.things(size)]
        near_ones += [family.thing_of(9, number) for number in spread(self.many(9))]
        for thing in near_ones:
            for value in near_in_kind(self.hand, thing):
                if family.is_one(value) is not self.hand.is_one(value):
                    self.fail(f"{value!r} {self.hand.is_one(value)}")

    def test_size_40(self):
        family = self.made()
        for number, thing in self.large():
            with self.subTest(number=number):
                self.assertEqual(family.size_of(thing), 40)
                self.assertEqual(self.hand.size(thing), 40)
                self.assertIs(family.is_one(thing), True)
                self.assertTrue(self.hand.is_one(thing))
                self.assertEqual(family.number_of(thing), number)

    def test_next_of_size_40(self):
        family = self.made()
        for number, thing in self.large():
            with self.subTest(number=number):
                wanted = None if number == self.many(40) - 1 else family.thing_of(40, number + 1)
                self.assertEqual(family.next_of(thing), wanted)

    def test_none_behind_the_last_of_every_size(self):
        family = self.made()
        for size in range(family.least, 41):
            with self.subTest(size=size):
                self.assertIs(family.next_of(family.thing_of(size, self.many(size) - 1)), None)

    def test_what_is_not_one_of_the_family(self):
        family = self.made()
        for thing in self.hand.wrong:
            with self.subTest(thing=thing):
                self.assertFalse(self.hand.is_one(thing))
                self.assertIs(family.is_one(thing), False)
                self.assertRaises(NoThing, family.number_of, thing)
                self.assertRaises(NoThing, family.next_of, thing)

    def test_wrong_sizes(self):
        family = self.made()
        for size in self.wrong_sizes():
            with self.subTest(size=size):
                self.assertRaises(NoSize, family.many, size)
                self.assertRaises(NoSize, family.thing_of, size, 0)

    def test_a_wrong_size_is_refused_ahead_of_a_wrong_number(self):
        family = self.made()
        for size in self.wrong_sizes():
            for number in WRONG_NUMBERS:
                with self.subTest(size=size, number=number):
                    self.assertRaises(NoSize, family.thing_of, size, number)

    def test_wrong_numbers(self):
        family = self.made()
        for size in range(family.least, 41):
            for number in WRONG_NUMBERS + [self.many(size), self.many(size) + 1]:
                if not 0 <= number < self.many(size):
                    with self.subTest(size=size, number=number):
                        self.assertRaises(NoNumber, family.thing_of, size, number)

    def test_few_calls_within_one_another(self):
        family = self.made()
        last = self.many(40) - 1
        for number in (0, last // 2, last):
            thing = with_few_frames(lambda: family.thing_of(40, number))
            self.assertEqual(with_few_frames(lambda: family.number_of(thing)), number)
            self.assertTrue(with_few_frames(lambda: family.is_one(thing)))

    def test_nothing_is_changed_and_what_is_told_is_the_askers_own(self):
        family = self.made()
        things = [thing for size in self.all_sizes() if size < 5 for thing in self.things(size)]
        for thing in things + [thing for number, thing in self.large()[::6]]:
            with self.subTest(thing=thing):
                size = family.size_of(thing)
                self.check_own(family.is_one, thing)
                self.check_own(family.size_of, thing)
                self.check_own(family.number_of, thing)
                self.check_own(family.next_of, thing)
                self.check_own(family.thing_of, size, family.number_of(thing))
        for thing in self.hand.wrong:
            self.check_own(family.is_one, thing)


class SplitChecks(FamilyChecks):
    """What holds of each of the seven."""

    # How the first and the last thing of a size are written out: number 0 has bare left parts alone.
    first = None
    last = None

    def many(self, size):
        return by_rule(size)

    def things(self, size):
        return self.hand.in_order(size)[size]

    def test_made(self):
        self.assertIsInstance(self.made(), SplitFamily)
        self.assertEqual(self.made().least, 0)

    def test_the_bare_thing(self):
        family = self.made()
        bare = self.hand.bare()
        self.assertEqual(family.bare(), bare)
        self.assertEqual(family.size_of(bare), 0)
        self.assertEqual(family.number_of(bare), 0)
        self.assertEqual(family.thing_of(0, 0), bare)
        self.assertIs(family.next_of(bare), None)
        self.check_own(family.bare)

    def test_first_and_last_of_every_size(self):
        family = self.made()
        for size in range(41):
            with self.subTest(size=size):
                self.assertEqual(family.thing_of(size, 0), self.first(size))
                self.assertEqual(family.number_of(self.first(size)), 0)
                self.assertEqual(family.thing_of(size, by_rule(size) - 1), self.last(size))
                self.assertEqual(family.number_of(self.last(size)), by_rule(size) - 1)

    def test_parts_of_small_sizes(self):
        family = self.made()
        for size in range(1, self.most + 1):
            for thing in self.things(size):
                with self.subTest(thing=thing):
                    parts = family.parted(thing)
                    self.assertIsInstance(parts, tuple)
                    self.assertEqual(parts, self.hand.parted(thing))
                    self.assertEqual(family.joined(parts[0], parts[1]), thing)
                    self.assertEqual(family.size_of(parts[0]) + family.size_of(parts[1]), size - 1)

    def test_joined_of_small_sizes(self):
        family = self.made()
        things = [thing for size in range(5) for thing in self.things(size)]
        for left in things:
            for right in things:
                with self.subTest(left=left, right=right):
                    joined = family.joined(left, right)
                    self.assertEqual(joined, self.hand.joined(left, right))
                    self.assertEqual(family.parted(joined), (left, right))

    def test_parts_that_come_to_39(self):
        family = self.made()
        for left_size in range(40):
            for share in (0, 1, 2, 3):
                left = family.thing_of(left_size, (by_rule(left_size) - 1) * share // 3)
                right = family.thing_of(39 - left_size, (by_rule(39 - left_size) - 1) * (3 - share) // 3)
                joined = family.joined(left, right)
                self.assertEqual(joined, self.hand.joined(left, right))
                self.assertTrue(family.is_one(joined))
                self.assertEqual(family.parted(joined), (left, right))

    def test_the_number_at_size_40_is_the_sum_that_the_document_writes(self):
        for number, thing in self.large():
            self.assertEqual(self.by_the_sum(thing), number)

    def by_the_sum(self, thing):
        n = self.hand.size(thing)
        if n == 0:
            return 0
        left, right = self.hand.parted(thing)
        i = self.hand.size(left)
        ahead = sum(by_rule(j) * by_rule(n - 1 - j) for j in range(i))
        return ahead + self.by_the_sum(left) * by_rule(n - 1 - i) + self.by_the_sum(right)

    def test_parts_are_the_askers_own(self):
        family = self.made()
        things = [thing for size in range(1, 5) for thing in self.things(size)]
        for thing in things + [thing for number, thing in self.large()[::6]]:
            with self.subTest(thing=thing):
                self.check_own(family.parted, thing)
                self.check_own(lambda one: family.joined(*family.parted(one)), thing)
                left, right = self.hand.parted(thing)
                self.check_own(family.joined, left, right)
        self.check_own(family.joined, self.hand.bare(), self.hand.bare())


class RingChecks(FamilyChecks):
    """What holds of each of the three. A test tells code, a thing's code as the document does, and candidates."""

    most = 5

    def many(self, size):
        return (size + 1) ** (size - 1)

    def number(self, thing):
        """The number that the document tells, by the powers of the base."""
        code = self.code(thing)
        base = len(code) + 2
        return sum(figure * base ** (len(code) - 1 - k) for k, figure in enumerate(code))

    def things(self, size):
        found = [value for value in self.candidates(size) if self.hand.is_one(value)]
        return sorted(found, key=self.number)

    def test_made(self):
        self.assertIsInstance(self.made(), RingFamily)
        self.assertIsInstance(self.made(), Family)
        self.assertEqual(self.made().least, 1)

    def test_codes_of_small_sizes(self):
        family = self.made()
        for size in self.all_sizes():
            for thing in self.things(size):
                with self.subTest(thing=thing):
                    code = self.code(thing)
                    self.assertEqual(family.code_of(thing), code)
                    self.assertEqual(family.of_code(code), thing)

    def test_codes_of_size_40(self):
        family = self.made()
        for number, thing in self.large():
            with self.subTest(number=number):
                self.assertEqual(self.number(thing), number)
                self.assertEqual(family.code_of(thing), self.code(thing))
                self.assertEqual(family.of_code(self.code(thing)), thing)

    def test_first_and_last_of_every_size(self):
        family = self.made()
        for size in range(1, 41):
            with self.subTest(size=size):
                self.assertEqual(self.code(family.thing_of(size, 0)), [0] * (size - 1))
                self.assertEqual(self.code(family.thing_of(size, self.many(size) - 1)), [size] * (size - 1))

    def test_codes_are_the_askers_own(self):
        family = self.made()
        for thing in [thing for size in range(1, 5) for thing in self.things(size)]:
            with self.subTest(thing=thing):
                self.check_own(family.code_of, thing)
                self.check_own(family.of_code, self.code(thing))
