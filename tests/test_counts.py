"""Points 4 and 5: the shares in three ways, and the rings' counts."""

import math
import unittest

from countkin.counts import by_rule, rests, ring_many, shares

FIRST_SHARES = [1, 1, 2, 5, 14, 42, 132, 429, 1430, 4862, 16796]
SHARE_OF_40 = 2622127042276492108820


def share(size):
    """The share by a closed form, to hold the program's three ways against."""
    return math.comb(2 * size, size) // (size + 1)


class SharesTest(unittest.TestCase):
    def test_the_first_ones(self):
        self.assertEqual(shares(10), FIRST_SHARES)

    def test_the_least(self):
        self.assertEqual(shares(0), [1])
        self.assertEqual(shares(1), [1, 1])

    def test_every_size(self):
        for most in range(61):
            with self.subTest(most=most):
                self.assertEqual(shares(most), [share(size) for size in range(most + 1)])

    def test_each_is_the_sum_that_point_4_tells(self):
        c = shares(60)
        for k in range(60):
            self.assertEqual(c[k + 1], sum(c[j] * c[k - j] for j in range(k + 1)))

    def test_a_told_list_is_the_askers_own(self):
        told = shares(5)
        told[3] = 7
        told.append(8)
        self.assertEqual(shares(5), [1, 1, 2, 5, 14, 42])
        self.assertEqual(shares(6), [1, 1, 2, 5, 14, 42, 132])


class ByRuleTest(unittest.TestCase):
    def test_the_first_ones(self):
        self.assertEqual([by_rule(size) for size in range(11)], FIRST_SHARES)

    def test_every_size(self):
        for size in range(301):
            with self.subTest(size=size):
                self.assertEqual(by_rule(size), share(size))

    def test_the_rule_leaves_no_rest(self):
        for k in range(300):
            self.assertEqual(by_rule(k + 1) * (k + 2), by_rule(k) * (4 * k + 2))

    def test_written_values(self):
        self.assertEqual(by_rule(0), 1)
        self.assertEqual(by_rule(40), SHARE_OF_40)
        self.assertEqual(len(str(by_rule(300))), 177)

    def test_it_tells_whole_numbers(self):
        for size in (0, 1, 300):
            self.assertIs(type(by_rule(size)), int)


class RestsTest(unittest.TestCase):
    def test_the_least(self):
        self.assertEqual(rests(0), [[1]])
        self.assertEqual(rests(1), [[1, 1], [1]])

    def test_a_small_one(self):
        self.assertEqual(rests(4), [[1, 1, 1, 1, 1], [1, 2, 3, 4], [2, 5, 9], [5, 14], [14]])

    def test_every_size_as_point_4_tells(self):
        for size in range(41):
            with self.subTest(size=size):
                self.assertEqual(rests(size), self.told_by_point_4(size))

    def told_by_point_4(self, size):
        r = {}
        for u in range(size + 1):
            for d in range(u, size + 1):
                r[u, d] = 1 if u == 0 else r[u - 1, d] + (0 if d == u else r[u, d - 1])
        return [[r[u, d] for d in range(u, size + 1)] for u in range(size + 1)]

    def test_every_rest_by_a_closed_form(self):
        for u, row in enumerate(rests(40)):
            for d, rest in enumerate(row, start=u):
                self.assertEqual(rest * (d + 1), (d - u + 1) * math.comb(u + d, u))

    def test_the_last_ones_are_shares(self):
        self.assertEqual([row[0] for row in rests(40)], shares(40))

    def test_a_told_list_is_the_askers_own(self):
        told = rests(3)
        told[1][0] = 7
        told[0].clear()
        told.pop()
        self.assertEqual(rests(3), [[1, 1, 1, 1], [1, 2, 3], [2, 5], [5]])

    def test_no_row_is_told_twice_in_one_list(self):
        rows = rests(40)
        self.assertEqual(len({id(row) for row in rows}), 41)


class RingManyTest(unittest.TestCase):
    def test_the_first_ones(self):
        self.assertEqual([ring_many(size) for size in range(1, 7)], [1, 3, 16, 125, 1296, 16807])

    def test_every_size(self):
        for size in range(1, 61):
            with self.subTest(size=size):
                self.assertEqual(ring_many(size), (size + 1) ** (size - 1))


if __name__ == "__main__":
    unittest.main()
