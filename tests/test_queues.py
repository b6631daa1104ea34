"""Points 26 and 27: the ways between trees and cars, and how they hang together with the codes."""

import itertools
import unittest

from byhand import CARS, TREES, cars_code, tree_code
from checks import OwnChecks, spread
from countkin.cars import Cars, cars_to_code, code_to_cars
from countkin.counts import ring_many
from countkin.elders import Trees, code_to_tree, tree_to_code
from countkin.errors import NoThing
from countkin.queues import cars_to_tree, tree_to_cars


def all_of(hand, numbers, size):
    return [list(row) for row in itertools.product(numbers, repeat=size) if hand.is_one(list(row))]


def visits(tree):
    """The knots in the order in which they are visited: first come, first visited."""
    waiting, row = [0], []
    while waiting:
        knot = waiting.pop(0)
        row.append(knot)
        waiting += sorted(child for child in range(1, len(tree) + 1) if tree[child - 1] == knot)
    return row


def wishes(tree):
    row = visits(tree)
    return [row.index(tree[k]) for k in range(len(tree))]


class QueuesTest(OwnChecks, unittest.TestCase):
    def test_all_small_sizes(self):
        for size in range(1, 6):
            found = []
            for tree in all_of(TREES, range(size + 1), size):
                cars = tree_to_cars(tree)
                self.assertEqual(cars, wishes(tree))
                self.assertEqual(cars_to_tree(cars), tree)
                found.append(cars)
            self.assertEqual(sorted(found), all_of(CARS, range(size), size))

    def test_back_and_forth(self):
        for size in range(1, 6):
            for cars in all_of(CARS, range(size), size):
                tree = cars_to_tree(cars)
                self.assertTrue(TREES.is_one(tree))
                self.assertEqual(len(tree), size)
                self.assertEqual(tree_to_cars(tree), cars)

    def test_size_40(self):
        for number in spread(ring_many(40)):
            tree = Trees().thing_of(40, number)
            self.assertEqual(tree_to_cars(tree), wishes(tree))
            self.assertTrue(CARS.is_one(tree_to_cars(tree)))
            self.assertEqual(cars_to_tree(tree_to_cars(tree)), tree)
            cars = Cars().thing_of(40, number)
            self.assertTrue(TREES.is_one(cars_to_tree(cars)))
            self.assertEqual(tree_to_cars(cars_to_tree(cars)), cars)

    def test_written_ones(self):
        self.assertEqual(tree_to_cars([0]), [0])
        self.assertEqual(cars_to_tree([0]), [0])
        self.assertEqual(tree_to_cars([3, 3, 0, 3, 2]), [1, 1, 0, 1, 3])
        self.assertEqual(tree_to_cars([2, 0, 2, 0]), [1, 0, 1, 0])
        self.assertEqual(cars_to_tree([2, 0, 2, 0]), [4, 0, 4, 0])

    def test_what_hangs_together_over_the_codes(self):
        for size in range(1, 6):
            for number in range(ring_many(size)):
                code = tree_to_code(Trees().thing_of(size, number))
                cars = code_to_cars(code)
                self.assertEqual(tree_code(code_to_tree(code)), code)
                self.assertEqual(cars_code(cars), code)
                # One number in all three families, by way of the codes; the row of visits has its own way.
                self.assertEqual(Cars().number_of(cars), number)
                self.assertEqual(code_to_tree(cars_to_code(cars)), Trees().thing_of(size, number))

    def test_what_is_not_one_of_the_first_family(self):
        for thing in TREES.wrong:
            with self.subTest(thing=thing):
                self.assertRaises(NoThing, tree_to_cars, thing)
        for thing in CARS.wrong:
            with self.subTest(thing=thing):
                self.assertRaises(NoThing, cars_to_tree, thing)

    def test_what_is_told_is_the_askers_own(self):
        for size in range(1, 5):
            for tree in all_of(TREES, range(size + 1), size):
                self.check_own(tree_to_cars, tree)
            for cars in all_of(CARS, range(size), size):
                self.check_own(cars_to_tree, cars)


if __name__ == "__main__":
    unittest.main()
