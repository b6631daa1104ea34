"""Points 20, 24, 25 and 27: rows of cars, where they stand, and the ways between them and codes."""

import itertools
import unittest

from byhand import CARS, CODES, cars_code, cars_parked
from checks import OwnChecks, RingChecks, spread
from countkin.cars import Cars, cars_to_code, code_to_cars, parked
from countkin.counts import ring_many
from countkin.errors import NoThing
from countkin.ring import Codes


class CarsTest(RingChecks, unittest.TestCase):
    hand = CARS
    made = Cars

    def candidates(self, size):
        return [list(row) for row in itertools.product(range(size), repeat=size)]

    def code(self, thing):
        return cars_code(thing)

    def test_the_one_row_of_size_1(self):
        self.assertEqual(Cars().thing_of(1, 0), [0])
        self.assertEqual(Cars().number_of([0]), 0)
        self.assertIs(Cars().next_of([0]), None)
        self.assertEqual(Cars().code_of([0]), [])
        self.assertEqual(Cars().of_code([]), [0])

    def test_written_ones(self):
        self.assertEqual([Cars().thing_of(2, number) for number in range(3)], [[0, 0], [0, 1], [1, 0]])
        self.assertEqual(cars_to_code([1, 0, 3, 0]), [4, 3, 2])
        self.assertEqual(code_to_cars([4, 3, 2]), [1, 0, 3, 0])
        self.assertEqual(parked([1, 0, 1, 0]), [1, 0, 2, 3])
        self.assertEqual(parked([3, 0, 0, 0]), [3, 0, 1, 2])


class ParkedTest(OwnChecks, unittest.TestCase):
    def things(self, size):
        return [row for row in CarsTest().candidates(size) if CARS.is_one(row)]

    def test_all_small_sizes(self):
        for size in range(1, 6):
            for cars in self.things(size):
                self.assertEqual(parked(cars), cars_parked(cars))

    def test_all_find_a_place_just_where_the_definition_holds(self):
        for size in range(1, 6):
            for row in CarsTest().candidates(size):
                try:
                    cars_parked(row)
                except StopIteration:
                    self.assertRaises(NoThing, parked, row)
                else:
                    self.assertEqual(sorted(parked(row)), list(range(size)))

    def test_size_40(self):
        for number in spread(ring_many(40)):
            cars = Cars().thing_of(40, number)
            self.assertEqual(parked(cars), cars_parked(cars))
            self.assertEqual(sorted(parked(cars)), list(range(40)))
        self.assertEqual(parked([0] * 40), list(range(40)))
        self.assertEqual(parked(list(range(39, -1, -1))), list(range(39, -1, -1)))

    def test_what_is_not_one_of_the_family(self):
        for thing in CARS.wrong:
            with self.subTest(thing=thing):
                self.assertRaises(NoThing, parked, thing)

    def test_what_is_told_is_the_askers_own(self):
        for cars in [cars for size in range(1, 5) for cars in self.things(size)]:
            self.check_own(parked, cars)


class WaysTest(OwnChecks, unittest.TestCase):
    def things(self, size):
        return [row for row in CarsTest().candidates(size) if CARS.is_one(row)]

    def test_forth_and_back(self):
        for size in range(1, 6):
            for cars in self.things(size):
                code = cars_to_code(cars)
                self.assertEqual(code, cars_code(cars))
                self.assertEqual(code_to_cars(code), cars)
                self.assertEqual(Codes().size_of(code), size)
        for size in (6, 13, 40):
            for number in spread(ring_many(size)):
                code = Codes().thing_of(size, number)
                cars = code_to_cars(code)
                self.assertTrue(CARS.is_one(cars))
                self.assertEqual(cars_code(cars), code)
                self.assertEqual(cars_to_code(cars), code)

    def test_the_number_is_the_codes(self):
        for size in (1, 2, 3, 4, 5, 40):
            for number in spread(ring_many(size)):
                self.assertEqual(Codes().number_of(cars_to_code(Cars().thing_of(size, number))), number)
                self.assertEqual(Cars().number_of(code_to_cars(Codes().thing_of(size, number))), number)

    def test_what_is_not_one_of_the_first_family(self):
        for thing in CARS.wrong:
            with self.subTest(thing=thing):
                self.assertRaises(NoThing, cars_to_code, thing)
        for thing in CODES.wrong:
            with self.subTest(thing=thing):
                self.assertRaises(NoThing, code_to_cars, thing)

    def test_what_is_told_is_the_askers_own(self):
        for cars in [cars for size in range(1, 5) for cars in self.things(size)]:
            self.check_own(cars_to_code, cars)
            self.check_own(code_to_cars, cars_code(cars))


if __name__ == "__main__":
    unittest.main()
