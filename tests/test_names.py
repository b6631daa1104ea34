"""The interface under countkin/names.py."""

import unittest

from checks import OwnChecks
from byhand import SIGNS
from countkin.bends import Bows, Rooms
from countkin.cars import Cars
from countkin.elders import Trees
from countkin.errors import NoFamily
from countkin.floors import Floors
from countkin.names import families, family_of
from countkin.ring import Codes
from countkin.rows import Turns
from countkin.signs import Brackets, Stairs
from countkin.twigs import Twins

WORDS = ["brackets", "stairs", "twins", "bows", "rooms", "floor", "turns", "codes", "trees", "cars"]
MADE = [Brackets, Stairs, Twins, Bows, Rooms, Floors, Turns, Codes, Trees, Cars]


def wrong_words():
    """Texts near the words: a sign more, less or exchanged; and some others."""
    found = ["", " ", "Brackets", "BRACKETS", "floors", "code", "tree", "car", "brackets stairs", "x" * 60, "twins>floor"]
    for word in WORDS:
        found += [word + word, word + " ", " " + word, word.upper()]
        for k in range(len(word) + 1):
            found.append(word[:k] + word[k + 1:])
            for sign in SIGNS:
                found += [word[:k] + sign + word[k:], word[:k] + sign + word[k + 1:]]
    return [word for word in found if word not in WORDS]


class NamesTest(OwnChecks, unittest.TestCase):
    def test_families(self):
        self.assertEqual(families(), WORDS)
        self.check_own(families)

    def test_family_of(self):
        for word, made in zip(WORDS, MADE):
            family = family_of(word)
            self.assertIs(type(family), made)
            self.assertEqual(family.word, word)
            self.assertIsNot(family_of(word), family)

    def test_any_other_text(self):
        for word in wrong_words():
            with self.subTest(word=word):
                self.assertRaises(NoFamily, family_of, word)


if __name__ == "__main__":
    unittest.main()
