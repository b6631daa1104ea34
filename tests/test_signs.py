"""Points 8 to 11: brackets and stairs."""

import unittest

from byhand import BRACKETS, SIGNS, STAIRS
from checks import SplitChecks
from countkin.signs import Brackets, Stairs
from countkin.steps import step_number


class BracketsTest(SplitChecks, unittest.TestCase):
    hand = BRACKETS
    made = Brackets

    def first(self, size):
        return "()" * size

    def last(self, size):
        return "(" * size + ")" * size

    def test_written_ones(self):
        self.assertEqual([Brackets().thing_of(3, number) for number in range(5)],
                         ["()()()", "()(())", "(())()", "(()())", "((()))"])
        self.assertEqual(Brackets().parted("(()())()"), ("()()", "()"))
        self.assertEqual(Brackets().parted("()(())()"), ("", "(())()"))
        self.assertEqual(Brackets().joined("()", "(())"), "(())(())")

    def test_the_number_is_not_the_place_in_the_order_of_texts(self):
        self.assertEqual(Brackets().number_of("((()))"), 4)
        self.assertEqual(step_number("((()))"), 0)

    def test_no_other_sign_is_let_by(self):
        for sign in SIGNS:
            for text in (sign, "()" + sign, sign + "()", "(" + sign + ")", "(" + sign, sign + ")"):
                self.assertIs(Brackets().is_one(text), BRACKETS.is_one(text), text)


class StairsTest(SplitChecks, unittest.TestCase):
    hand = STAIRS
    made = Stairs

    def first(self, size):
        return list(range(size))

    def last(self, size):
        return [0] * size

    def test_written_ones(self):
        self.assertEqual([Stairs().thing_of(3, number) for number in range(5)],
                         [[0, 1, 2], [0, 1, 1], [0, 0, 2], [0, 0, 1], [0, 0, 0]])
        self.assertEqual(Stairs().parted([0, 0, 1, 3, 3]), ([0, 1], [0, 0]))
        self.assertEqual(Stairs().joined([0, 0], [0, 1]), [0, 0, 0, 3, 4])
        self.assertEqual(Stairs().parted([0]), ([], []))


if __name__ == "__main__":
    unittest.main()
