"""Points 20, 22, 23 and 27: trees, and the ways between them and codes."""

import itertools
import unittest

from byhand import CODES, TREES, tree_code
from checks import OwnChecks, RingChecks, spread
from countkin.counts import ring_many
from countkin.elders import Trees, code_to_tree, tree_to_code
from countkin.errors import NoThing
from countkin.ring import Codes


class TreesTest(RingChecks, unittest.TestCase):
    hand = TREES
    made = Trees

    def candidates(self, size):
        return [list(row) for row in itertools.product(range(size + 1), repeat=size)]

    def code(self, thing):
        return tree_code(thing)

    def test_the_one_tree_of_size_1(self):
        self.assertEqual(Trees().thing_of(1, 0), [0])
        self.assertEqual(Trees().number_of([0]), 0)
        self.assertIs(Trees().next_of([0]), None)
        self.assertEqual(Trees().code_of([0]), [])
        self.assertEqual(Trees().of_code([]), [0])

    def test_written_ones(self):
        self.assertEqual([Trees().thing_of(2, number) for number in range(3)], [[0, 0], [0, 1], [2, 0]])
        self.assertEqual(tree_to_code([3, 3, 0, 1, 1]), [3, 1, 1, 3])
        self.assertEqual(tree_to_code([3, 3, 0, 3, 2]), [3, 3, 2, 3])
        self.assertEqual(code_to_tree([3, 3, 2, 3]), [3, 3, 0, 3, 2])
        self.assertEqual(tree_to_code([2, 3, 4, 0]), [2, 3, 4])
        self.assertEqual(tree_to_code([0, 1, 2, 3]), [3, 2, 1])

    def test_long_walks_to_knot_0(self):
        for size in (2, 39, 40):
            self.assertIs(Trees().is_one(list(range(size))), True)
            self.assertIs(Trees().is_one(list(range(2, size + 1)) + [0]), True)
            self.assertIs(Trees().is_one(list(range(2, size + 1)) + [1]), False)


class WaysTest(OwnChecks, unittest.TestCase):
    def things(self, size):
        return [tree for tree in TreesTest().candidates(size) if TREES.is_one(tree)]

    def test_forth_and_back(self):
        for size in range(1, 6):
            for tree in self.things(size):
                code = tree_to_code(tree)
                self.assertEqual(code, tree_code(tree))
                self.assertEqual(code_to_tree(code), tree)
                self.assertEqual(Codes().size_of(code), size)
        for size in (6, 13, 40):
            for number in spread(ring_many(size)):
                tree = Trees().thing_of(size, number)
                self.assertEqual(tree_to_code(tree), tree_code(tree))
                self.assertEqual(code_to_tree(tree_to_code(tree)), tree)

    def test_the_number_is_the_codes(self):
        for size in (1, 2, 3, 4, 5, 40):
            for number in spread(ring_many(size)):
                self.assertEqual(Codes().number_of(tree_to_code(Trees().thing_of(size, number))), number)
                self.assertEqual(Trees().number_of(code_to_tree(Codes().thing_of(size, number))), number)

    def test_what_is_not_one_of_the_first_family(self):
        for thing in TREES.wrong:
            with self.subTest(thing=thing):
                self.assertRaises(NoThing, tree_to_code, thing)
        for thing in CODES.wrong:
            with self.subTest(thing=thing):
                self.assertRaises(NoThing, code_to_tree, thing)

    def test_what_is_told_is_the_askers_own(self):
        for tree in [tree for size in range(1, 5) for tree in self.things(size)]:
            self.check_own(tree_to_code, tree)
            self.check_own(code_to_tree, tree_code(tree))


if __name__ == "__main__":
    unittest.main()
