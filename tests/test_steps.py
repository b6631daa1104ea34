"""Points 6 and 7: texts that close, and their places in the order of texts."""

import itertools
import unittest

from countkin.counts import by_rule
from countkin.errors import NoNumber, NoSize, NoThing
from countkin.steps import closes, step_next, step_number, step_text

SIGNS = [chr(code) for code in range(32, 127) if chr(code) != "%"]

UNCLOSED = [
    "(", ")", ")(", "())", "(()", "())(", ")()(", "(" * 80, ")" * 80, ")" * 40 + "(" * 40,
    "(" * 40 + ")" * 39, "(" * 39 + ")" * 40, "()" * 39 + ")(",
    "a", " ", "( )", "() ", " ()", "()a", "(a)", "[]", "([)]", "{}", "<>", "(())-", "-", ".", "a" * 80,
]

# Spread over all places of size 40, with the first and the last among them.
LAST = by_rule(40) - 1
PLACES = sorted({0, 1, 2, LAST - 2, LAST - 1, LAST} | {LAST * k // 97 for k in range(98)})

WRONG_SIZES = [-1, -2, 41, 42, 100, -(10 ** 59), 10 ** 59, -(10 ** 70) + 1, 10 ** 70 - 1]


def closed_by_definition(text):
    if text.count("(") + text.count(")") != len(text) or text.count("(") != text.count(")"):
        return False
    return all(text[:k].count(")") <= text[:k].count("(") for k in range(len(text) + 1))


def all_closed(size):
    """All texts of a size that close, in the order of texts, found by trying each."""
    found = ["".join(signs) for signs in itertools.product("()", repeat=2 * size)]
    return sorted(text for text in found if closed_by_definition(text))


class ClosesTest(unittest.TestCase):
    def test_the_empty_text_closes(self):
        self.assertIs(closes(""), True)

    def test_all_short_texts(self):
        for length in range(11):
            for signs in itertools.product("()", repeat=length):
                text = "".join(signs)
                self.assertIs(closes(text), closed_by_definition(text), text)

    def test_what_does_not_close(self):
        for text in UNCLOSED:
            with self.subTest(text=text):
                self.assertIs(closes(text), False)

    def test_another_sign_anywhere(self):
        for sign in SIGNS:
            for text in (sign + "()", "(" + sign + ")", "()" + sign, sign, "(" + sign, sign + ")"):
                with self.subTest(text=text):
                    self.assertIs(closes(text), closed_by_definition(text))

    def test_the_longest(self):
        for text in ("()" * 40, "(" * 40 + ")" * 40, "(())" * 20):
            self.assertIs(closes(text), True)
            self.assertIs(closes(text[:-1] + "("), False)


class PlaceTest(unittest.TestCase):
    def test_all_small_sizes(self):
        for size in range(8):
            texts = all_closed(size)
            self.assertEqual(len(texts), by_rule(size))
            for place, text in enumerate(texts):
                with self.subTest(text=text):
                    self.assertEqual(step_number(text), place)
                    self.assertEqual(step_text(size, place), text)
                    self.assertEqual(step_next(text), (texts + [None])[place + 1])

    def test_written_ones(self):
        texts = ["((()))", "(()())", "(())()", "()(())", "()()()"]
        self.assertEqual([step_text(3, place) for place in range(5)], texts)
        self.assertEqual([step_number(text) for text in texts], [0, 1, 2, 3, 4])

    def test_size_0(self):
        self.assertEqual(step_number(""), 0)
        self.assertEqual(step_text(0, 0), "")
        self.assertIs(step_next(""), None)

    def test_first_and_last_of_every_size(self):
        for size in range(41):
            with self.subTest(size=size):
                first = "(" * size + ")" * size
                last = "()" * size
                self.assertEqual(step_text(size, 0), first)
                self.assertEqual(step_number(first), 0)
                self.assertEqual(step_text(size, by_rule(size) - 1), last)
                self.assertEqual(step_number(last), by_rule(size) - 1)
                self.assertIs(step_next(last), None)

    def test_places_of_size_40(self):
        texts = [step_text(40, place) for place in PLACES]
        self.assertEqual(texts, sorted(set(texts)))
        for place, text in zip(PLACES, texts):
            with self.subTest(place=place):
                self.assertEqual(len(text), 80)
                self.assertTrue(closed_by_definition(text))
                self.assertEqual(step_number(text), place)

    def test_next_of_size_40(self):
        for place in PLACES[:-1]:
            with self.subTest(place=place):
                self.assertEqual(step_next(step_text(40, place)), step_text(40, place + 1))
        self.assertIs(step_next(step_text(40, LAST)), None)

    def test_the_last_of_part_of_a_text_is_not_the_last(self):
        self.assertEqual(step_next("(()()())"), "(()())()")
        self.assertEqual(step_next("()((()))()()"), "()(()((())))")
        self.assertEqual(step_next("(())()()"), "()((()))")


class RefusalTest(unittest.TestCase):
    def test_what_does_not_close(self):
        for text in UNCLOSED:
            with self.subTest(text=text):
                self.assertRaises(NoThing, step_number, text)
                self.assertRaises(NoThing, step_next, text)

    def test_another_sign(self):
        for sign in SIGNS:
            if sign not in "()":
                with self.subTest(sign=sign):
                    self.assertRaises(NoThing, step_number, "(" + sign + ")")
                    self.assertRaises(NoThing, step_next, "()" + sign)

    def test_wrong_sizes(self):
        for size in WRONG_SIZES:
            with self.subTest(size=size):
                self.assertRaises(NoSize, step_text, size, 0)

    def test_a_wrong_size_is_refused_ahead_of_a_wrong_number(self):
        for size in WRONG_SIZES:
            for number in (-1, 1, 10 ** 60, -(10 ** 60)):
                with self.subTest(size=size, number=number):
                    self.assertRaises(NoSize, step_text, size, number)

    def test_wrong_numbers(self):
        for size in range(41):
            for number in (-1, -2, by_rule(size), by_rule(size) + 1, 10 ** 59, -(10 ** 59), 10 ** 70 - 1):
                with self.subTest(size=size, number=number):
                    self.assertRaises(NoNumber, step_text, size, number)


if __name__ == "__main__":
    unittest.main()
