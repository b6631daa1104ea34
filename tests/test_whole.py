"""Points 1 and 3: the promise over the whole program."""

import random
import unittest

from byhand import BOWS, BRACKETS, CARS, CODES, FLOORS, ROOMS, STAIRS, TREES, TURNS, TWINS
from checks import spread
from countkin.chains import carried, chain, chain_back, held
from countkin.counts import by_rule, ring_many
from countkin.marks import mark
from countkin.names import families, family_of
from countkin.texts import led, read, written
from wayhands import ENDS, KEEPING, NAMES, SEVEN, some_chain

HANDS = {hand.word: hand for hand in (BRACKETS, STAIRS, TWINS, BOWS, ROOMS, FLOORS, TURNS, CODES, TREES, CARS)}


class CountsTest(unittest.TestCase):
    def test_equally_many_of_each(self):
        for size in range(41):
            for word in SEVEN:
                self.assertEqual(family_of(word).many(size), by_rule(size))
        for size in range(1, 41):
            for word in ("codes", "trees", "cars"):
                self.assertEqual(family_of(word).many(size), ring_many(size))

    def test_the_numbers_tell_all_things_each_once(self):
        for word in families():
            family = family_of(word)
            for size in range(family.least, 8 if family.least == 0 else 6):
                things = [family.thing_of(size, number) for number in range(family.many(size))]
                self.assertEqual(len({repr(thing) for thing in things}), family.many(size))
                for number, thing in enumerate(things):
                    self.assertTrue(HANDS[word].is_one(thing))
                    self.assertEqual(HANDS[word].size(thing), size)
                    self.assertEqual(family.number_of(thing), number)


class ChainsTest(unittest.TestCase):
    def samples(self, seed, among, words, rounds):
        chance = random.Random(seed)
        for _ in range(rounds):
            word = chance.choice(words)
            names = some_chain(chance, word, chance.randint(1, 12), among)
            family = family_of(word)
            for size in (family.least, 3, 4, chance.randint(5, 39), 40):
                thing = family.thing_of(size, chance.randrange(family.many(size)))
                yield word, names, size, thing

    def test_the_size_stays_and_the_back_leads_home(self):
        for word, names, size, thing in self.samples(3, NAMES, families(), 60):
            with self.subTest(names=names, thing=thing):
                other = ENDS[names[-1]][1]
                reached = chain(names)(thing)
                self.assertTrue(family_of(other).is_one(reached))
                self.assertEqual(HANDS[other].size(reached), size)
                self.assertEqual(chain(chain_back(names))(reached), thing)

    def test_marks_that_are_carried_are_alike(self):
        carrying = [name for name in NAMES if carried([name])]
        for word, names, _, thing in self.samples(34, carrying, families(), 60):
            reached = chain(names)(thing)
            for which in carried(names):
                with self.subTest(names=names, mark=which, thing=thing):
                    self.assertEqual(mark(ENDS[names[-1]][1], which, reached), mark(word, which, thing))

    def test_the_number_stays_on_direct_ways_and_ways_by_parts(self):
        for word, names, _, thing in self.samples(13, KEEPING, SEVEN, 60):
            with self.subTest(names=names, thing=thing):
                reached = chain(names)(thing)
                number = family_of(ENDS[names[-1]][1]).number_of(reached)
                self.assertEqual(number, family_of(word).number_of(thing))

    def test_lines_go_along(self):
        for word, names, _, thing in self.samples(40, NAMES, families(), 20):
            other = ENDS[names[-1]][1]
            line = led(written(word, thing), names)
            self.assertEqual(read(line), (other, chain(names)(thing)))
            self.assertEqual(led(line, chain_back(names)), written(word, thing))

    def test_a_chain_and_its_back_are_told_alike_with_nothing_done(self):
        for word, names, _, _ in self.samples(5, NAMES, families(), 8):
            ring = word not in SEVEN
            name = next(name for name in NAMES if ENDS[name][0] == word)
            there = [name] + chain_back([name])
            for size in range(1, 4) if ring else range(5):
                self.assertIs(held(names + chain_back(names), there, size), None)


class LargeTest(unittest.TestCase):
    def test_every_way_at_size_40(self):
        for name in NAMES:
            one, other = ENDS[name]
            family = family_of(one)
            for number in spread(family.many(40))[::4]:
                thing = family.thing_of(40, number)
                reached = chain([name])(thing)
                self.assertTrue(HANDS[other].is_one(reached), name)
                self.assertEqual(chain(chain_back([name]))(reached), thing)


if __name__ == "__main__":
    unittest.main()
