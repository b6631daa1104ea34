"""The interface under countkin/errors.py."""

import unittest

from countkin import errors

STRAIGHT = ["NoSize", "NoNumber", "NoThing", "NoFamily", "NoWay", "Apart", "NoMark", "NoText", "Broken"]


class ErrorsTest(unittest.TestCase):
    def test_any_refusal_stands_under_value_error(self):
        self.assertEqual(errors.KinError.__bases__, (ValueError,))

    def test_each_refusal_stands_straight_under_kin_error(self):
        for name in STRAIGHT:
            with self.subTest(name=name):
                self.assertEqual(getattr(errors, name).__bases__, (errors.KinError,))

    def test_no_refusal_stands_under_another_one(self):
        for name in STRAIGHT:
            for other in STRAIGHT:
                with self.subTest(name=name, other=other):
                    under = issubclass(getattr(errors, name), getattr(errors, other))
                    self.assertEqual(under, name == other)

    def test_there_are_no_other_refusals(self):
        self.assertEqual({one.__name__ for one in errors.KinError.__subclasses__()}, set(STRAIGHT))

    def test_each_is_raised_and_taken_by_its_own_name(self):
        for name in STRAIGHT[:-1]:
            with self.subTest(name=name), self.assertRaises(getattr(errors, name)):
                raise getattr(errors, name)("some words")

    def test_broken_has_its_place(self):
        for place in (0, 1, 11):
            with self.subTest(place=place), self.assertRaises(errors.Broken) as caught:
                raise errors.Broken(place)
            self.assertEqual(caught.exception.place, place)
            self.assertIn(str(place), str(caught.exception))

    def test_broken_is_made_with_a_place(self):
        with self.assertRaises(TypeError):
            errors.Broken()


if __name__ == "__main__":
    unittest.main()
