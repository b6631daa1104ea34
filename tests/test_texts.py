"""Points 39 to 41: things written as lines, lines read, and lines led along chains."""

import random
import re
import unittest

from byhand import BOWS, BRACKETS, CARS, CODES, FLOORS, ROOMS, SIGNS, STAIRS, TREES, TURNS, TWINS
from checks import OwnChecks, spread, with_few_frames
from countkin.errors import Apart, Broken, KinError, NoFamily, NoText, NoThing, NoWay
from countkin.names import families, family_of
from countkin.texts import led, read, written
from wayhands import ENDS, FUNCTION, NAMES, all_things, some_chain

HANDS = {hand.word: hand for hand in (BRACKETS, STAIRS, TWINS, BOWS, ROOMS, FLOORS, TURNS, CODES, TREES, CARS)}

SAMPLES = [
    ("brackets", "", "brackets -"), ("brackets", "(())()", "brackets (())()"),
    ("stairs", [], "stairs -"), ("stairs", [0, 0, 1, 3], "stairs 0 0 1 3"),
    ("twins", (), "twins ."), ("twins", ((), ()), "twins (..)"), ("twins", (((), ()), ((), ((), ()))), "twins ((..)(.(..)))"),
    ("bows", [], "bows -"), ("bows", [(0, 3), (1, 2), (4, 5)], "bows 0-3 1-2 4-5"),
    ("rooms", [], "rooms -"), ("rooms", [[0, 2], [1], [3]], "rooms 0,2 1 3"),
    ("floor", (2, []), "floor 2"), ("floor", (3, []), "floor 3"), ("floor", (6, [(0, 3), (1, 3), (3, 5)]), "floor 6 0-3 1-3 3-5"),
    ("turns", [], "turns -"), ("turns", [1, 2, 0, 3], "turns 1 2 0 3"),
    ("codes", [], "codes -"), ("codes", [3, 0], "codes 3 0"),
    ("trees", [0], "trees 0"), ("trees", [3, 3, 0], "trees 3 3 0"),
    ("cars", [0], "cars 0"), ("cars", [1, 0, 0], "cars 1 0 0"),
]

NUMBER = "(?:0|[1-9][0-9]?[0-9]?)"
FORMS = {
    "brackets": r"-|[()]+", "bows": f"-|{NUMBER}-{NUMBER}(?: {NUMBER}-{NUMBER})*",
    "rooms": f"-|{NUMBER}(?:,{NUMBER})*(?: {NUMBER}(?:,{NUMBER})*)*", "floor": f"{NUMBER}(?: {NUMBER}-{NUMBER})*",
}
NUMBERS_FORM = f"-|{NUMBER}(?: {NUMBER})*"


def is_twins_text(text):
    """Whether what is left is . where each (..) is made a . again and again."""
    while "(..)" in text:
        text = text.replace("(..)", ".")
    return text == "."


def of_form(word, rest):
    if word == "twins":
        return is_twins_text(rest)
    return re.fullmatch(FORMS.get(word, NUMBERS_FORM), rest) is not None


def thing_by_hand(word, rest):
    if word == "brackets":
        return "" if rest == "-" else rest
    if word == "twins":
        return eval("(" + rest.replace(".", "(),").replace(")", "),").replace("(),,", "(),") + ")")[0]
    if word == "floor":
        return (int(rest.split()[0]), [tuple(map(int, cut.split("-"))) for cut in rest.split()[1:]])
    pieces = [] if rest == "-" else rest.split()
    if word == "bows":
        return [tuple(map(int, pair.split("-"))) for pair in pieces]
    if word == "rooms":
        return [list(map(int, room.split(","))) for room in pieces]
    return list(map(int, pieces))


def read_by_hand(line):
    """The tuple that is told, or the refusal's class, as point 40 tells them."""
    word, blank, rest = line.partition(" ")
    if word not in HANDS:
        return NoFamily
    if not blank or not of_form(word, rest):
        return NoText
    thing = thing_by_hand(word, rest)
    return (word, thing) if HANDS[word].is_one(thing) else NoThing


def read_or_refused(line):
    try:
        return read(line)
    except KinError as e:
        return type(e)


def near_lines(line, signs):
    for k in range(len(line) + 1):
        yield line[:k]
        yield line[:k] + line[k + 1:]
        yield line[:k] + line[k + 1:k + 2] + line[k:k + 1] + line[k + 2:]
        for sign in signs:
            yield line[:k] + sign + line[k:]
            yield line[:k] + sign + line[k + 1:]


class WrittenTest(OwnChecks, unittest.TestCase):
    def test_written_ones(self):
        for word, thing, line in SAMPLES:
            with self.subTest(line=line):
                self.assertEqual(written(word, thing), line)
                self.assertEqual(read(line), (word, thing))

    def test_every_family_leads_back(self):
        for word in families():
            family = family_of(word)
            large = [family.thing_of(size, number) for size in (9, 40) for number in spread(family.many(size))]
            lines = []
            for thing in all_things(word, 6) + large:
                with self.subTest(word=word, thing=thing):
                    line = with_few_frames(lambda: written(word, thing))
                    self.assertLessEqual(len(line), 400)
                    self.assertEqual(with_few_frames(lambda: read(line)), (word, thing))
                    self.assertEqual(read_by_hand(line), (word, thing))
                    lines.append(line)
            self.assertEqual(len(set(lines)), len(lines))

    def test_no_family(self):
        for word in ("", "floors", "Brackets", "brackets ", "bracket", "x" * 60):
            with self.subTest(word=word):
                self.assertRaises(NoFamily, written, word, "()")
                self.assertRaises(NoFamily, written, word, "(")

    def test_what_is_not_one_of_the_family(self):
        for word, hand in HANDS.items():
            for thing in hand.wrong:
                with self.subTest(word=word, thing=thing):
                    self.assertRaises(NoThing, written, word, thing)

    def test_nothing_is_changed(self):
        for word in families():
            for thing in all_things(word, 3):
                self.check_own(lambda handed: written(word, handed), thing)


class ReadTest(OwnChecks, unittest.TestCase):
    def check(self, line):
        told = read_or_refused(line)
        if told != read_by_hand(line):
            self.fail(f"{line!r}: {told} but {read_by_hand(line)}")
        return told

    def test_lines_near_written_ones(self):
        told = []
        for _, _, line in SAMPLES:
            for near in near_lines(line, "()-.,: 0123789ab"):
                told.append(self.check(near))
        for refusal in (NoFamily, NoText, NoThing):
            self.assertIn(refusal, told)

    def test_every_sign_near_some_lines(self):
        for line in ("brackets ()", "stairs 0 1", "twins (..)", "bows 0-1", "rooms 0,1 2", "floor 4 0-2", "codes -"):
            for near in near_lines(line, SIGNS):
                self.check(near)

    def test_lines_near_larger_ones(self):
        for word in families():
            family = family_of(word)
            for number in spread(family.many(7))[::4]:
                for near in near_lines(written(word, family.thing_of(7, number)), "(). -0"):
                    self.check(near)

    def test_nothing_behind_the_blank(self):
        for word in families():
            self.assertRaises(NoText, read, word)
            self.assertRaises(NoText, read, word + " ")
            self.assertRaises(NoText, read, word + "  ")
            self.assertRaises(NoText, read, word + " - ")
            self.assertRaises(NoText, read, word + "  -")
            self.assertRaises(NoText, read, word + " --")
            self.assertRaises(NoText, read, word + " - -")
            self.assertRaises(NoFamily, read, word + "-")
            self.assertRaises(NoFamily, read, " " + word + " -")

    def test_where_a_dash_stands_for_nothing(self):
        for word in ("brackets", "stairs", "bows", "rooms", "turns", "codes"):
            self.assertEqual(read(word + " -"), (word, "" if word == "brackets" else []))
        for word in ("trees", "cars"):
            self.assertRaises(NoThing, read, word + " -")
        for word in ("twins", "floor"):
            self.assertRaises(NoText, read, word + " -")

    def test_no_family(self):
        for line in ("", " ", "-", "  ()", "bracket ()", "brackets() ()", "Brackets ()", "brackets,()", "x", "floors 2",
                     "x" * 400, " " * 400, "bracketsx ()"):
            with self.subTest(line=line):
                self.assertRaises(NoFamily, read, line)

    def test_numbers(self):
        for word in ("stairs", "turns", "codes", "trees", "cars"):
            for text in ("00", "01", "007", "0 00", "0 01", "1000", "9999", "0000", "+1", "-1", "1.0", "1e2", "a", "0 a",
                         "0,1", "0-1", "0  1", " 0", "0 ", "0 1 ", "1_0", "0x1"):
                with self.subTest(word=word, text=text):
                    self.assertRaises(NoText, read, f"{word} {text}")
            for text in ("999", "100", "10 200 999", "9", "10"):
                with self.subTest(word=word, text=text):
                    self.assertRaises(NoThing, read, f"{word} {text}")
        for text in ("0-999", "5-5", "100-10", "0-1 0-1", "0-2 1-3"):
            self.assertRaises(NoThing, read, f"bows {text}")
            self.assertRaises(NoThing, read, f"floor 4 {text}")
        for text in ("0", "0-", "-1", "0-1-2", "0--1", "0-01", "0-1000", "0 -1", "0- 1", "0-1,2-3", "0-1  2-3", "0-1 "):
            self.assertRaises(NoText, read, f"bows {text}")
            self.assertRaises(NoText, read, f"floor 4 {text}")
        for text in ("0-1", "", "02", "1000", "2,3", " 3"):
            self.assertRaises(NoText, read, f"floor {text}")
        for text in ("0", "1", "999", "4", "100 0-2"):
            self.assertRaises(NoThing, read, f"floor {text}")
        for text in ("0,", ",0", ",", "0,,1", "0, 1", "0 ,1", "0,01", "0;1", "0,1000"):
            self.assertRaises(NoText, read, f"rooms {text}")
        for text in ("1", "0,2", "1,0", "0,0", "0 0", "1 0", "0,2 1,3", "999,999"):
            self.assertRaises(NoThing, read, f"rooms {text}")

    def test_three_figures_are_a_number_and_four_are_none(self):
        self.assertRaises(NoThing, read, "floor 999")
        self.assertRaises(NoText, read, "floor 1000")
        line = "stairs " + " ".join(str(k) for k in range(40))
        self.assertEqual(read(line), ("stairs", list(range(40))))

    def test_brackets_and_twins_that_nest_deep(self):
        deep = "(" * 60
        self.assertRaises(NoThing, with_few_frames, lambda: read("brackets " + deep))
        self.assertRaises(NoText, with_few_frames, lambda: read("twins " + deep))
        self.assertRaises(NoText, with_few_frames, lambda: read("twins " + deep + "." + ".)" * 59))
        self.assertRaises(NoText, with_few_frames, lambda: read("twins " + deep + "." + ".)" * 61))
        self.assertRaises(NoText, read, "twins " + "(..)" * 90)
        self.assertRaises(NoText, read, "twins " + "." * 390)
        self.assertRaises(NoThing, read, "brackets " + ")" * 390)

    def test_twins(self):
        for text in ("..", "()", "(.)", "(...)", "(..", "..)", "(..).", ".(..)", "( ..)", "(. .)", ")", "(", "((..)", "(..))",
                     "(.(..)", "((..)..)", "(,)", ". ", "((.)(.))", "(.)(.)", ")(", ").(", "((..)(..)(..))"):
            with self.subTest(text=text):
                self.assertRaises(NoText, read, "twins " + text)

    def test_the_order_of_refusals(self):
        self.assertRaises(NoFamily, read, "bracket x")
        self.assertRaises(NoFamily, read, "")
        self.assertRaises(NoText, read, "stairs 5 x")
        self.assertRaises(NoText, read, "rooms 7 01")
        self.assertRaises(NoText, read, "floor 1 0")
        self.assertRaises(NoText, read, "brackets )(x")
        self.assertRaises(NoText, read, "trees")

    def test_what_is_told_is_the_askers_own(self):
        for _, _, line in SAMPLES:
            self.assertIsInstance(read(line), tuple)
            self.check_own(read, line)


class LedTest(OwnChecks, unittest.TestCase):
    def test_written_ones(self):
        self.assertEqual(led("brackets (()())()", ["brackets>rooms"]), "rooms 0,2 1 3")
        self.assertEqual(led("brackets (()())()", ["brackets>twins", "twins>floor"]), "floor 6 0-3 1-3 3-5")
        self.assertEqual(led("trees 3 3 0 3 2", ["trees>cars"]), "cars 1 1 0 1 3")
        self.assertEqual(led("trees 0", ["trees>codes"]), "codes -")
        self.assertEqual(led("twins .", ["twins>brackets", "brackets>bows", "bows>bows:turn"]), "bows -")
        self.assertEqual(led("rooms -", ["rooms>floor:parts"]), "floor 2")

    def test_every_way(self):
        for name in NAMES:
            one, other = ENDS[name]
            for thing in all_things(one, 4):
                with self.subTest(name=name, thing=thing):
                    self.assertEqual(led(written(one, thing), [name]), written(other, FUNCTION[name](thing)))

    def test_many_chains(self):
        chance = random.Random(41)
        for _ in range(60):
            word = chance.choice(families())
            names = some_chain(chance, word, chance.randint(1, 12))
            thing = chance.choice(all_things(word, 5))
            wanted = thing
            for name in names:
                wanted = FUNCTION[name](wanted)
            self.assertEqual(led(written(word, thing), names), written(ENDS[names[-1]][1], wanted))

    def test_size_40(self):
        for word in families():
            family = family_of(word)
            for number in spread(family.many(40))[::5]:
                thing = family.thing_of(40, number)
                name = [name for name in NAMES if ENDS[name][0] == word][0]
                self.assertEqual(led(written(word, thing), [name]), written(ENDS[name][1], FUNCTION[name](thing)))

    def test_a_chain_that_begins_elsewhere(self):
        for word in families():
            line = written(word, family_of(word).thing_of(2, 1))
            for name in NAMES:
                if ENDS[name][0] != word:
                    with self.subTest(line=line, name=name):
                        self.assertRaises(Apart, led, line, [name])

    def test_lines_that_can_not_be_read(self):
        for line, refusal in (("bracket ()", NoFamily), ("brackets", NoText), ("brackets x", NoText), ("brackets (", NoThing)):
            for names in (["brackets>rooms"], [], ["nonsense"], ["codes>trees"], ["brackets>rooms", "codes>trees"]):
                with self.subTest(line=line, names=names):
                    self.assertRaises(refusal, led, line, names)

    def test_chains_that_are_none(self):
        for names, place in (([], 0), (["brackets>rooms", "codes>trees"], 1), (["codes>trees", "brackets>rooms"], 1)):
            with self.subTest(names=names), self.assertRaises(Broken) as caught:
                led("brackets ()", names)
            self.assertEqual(caught.exception.place, place)
        for names in (["nonsense"], ["brackets>rooms", "nonsense"], ["codes>trees", "nonsense"], ["brackets>floor"]):
            with self.subTest(names=names):
                self.assertRaises(NoWay, led, "brackets ()", names)

    def test_names_are_as_they_were(self):
        self.check_own(led, "brackets (())", ["brackets>rooms", "rooms>rooms:gaps"])


if __name__ == "__main__":
    unittest.main()
