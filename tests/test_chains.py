"""Points 35 to 38: the ways' names, chains, and chains held against one another."""

import random
import unittest

from byhand import BOWS, BRACKETS, CARS, CODES, FLOORS, ROOMS, STAIRS, TREES, TURNS, TWINS
from checks import OwnChecks, lists_in
from countkin.chains import back_of, carried, carried_by, chain, chain_back, ends, held, way_of
from countkin.errors import Apart, Broken, NoSize, NoThing, NoWay
from countkin.marks import mark
from countkin.names import families, family_of
from wayhands import BACK, CARRIED, ENDS, FUNCTION, NAMES, SEVEN, all_things, fitting, some_chain

HANDS = {hand.word: hand for hand in (BRACKETS, STAIRS, TWINS, BOWS, ROOMS, FLOORS, TURNS, CODES, TREES, CARS)}
ROUND = ["brackets>rooms", "rooms>rooms:gaps", "rooms>bows:feet", "bows>bows:turn", "bows>brackets", "brackets>twins",
         "twins>floor", "floor>floor:turnback", "floor>turns:parts", "turns>turns:mirror", "turns>stairs:parts",
         "stairs>brackets"]
WRONG_SIZES = [-1, -2, 6, 7, 40, 41, 10 ** 59, -(10 ** 59), 10 ** 70 - 1, -(10 ** 70) + 1]


def no_names():
    """Texts that are no way's name: near the names, or put together from their pieces."""
    found = ["", ">", ":", ">:", ":parts", "brackets", "brackets>", ">brackets", "mirror", "x" * 60, "brackets>stairs>twins",
             "brackets >stairs", "brackets>stairs ", " brackets>stairs", "Brackets>stairs", "brackets<stairs", "feet"]
    manners = ["", ":", ":parts", ":mirror", ":turn", ":turnback", ":feet", ":gaps", ":gapsback", ":direct"]
    found += [f"{one}>{other}{manner}" for one in families() for other in families() for manner in manners]
    for name in NAMES:
        found += [name + name, name + ":parts", name.replace(">", ":"), name.replace(":", ">")]
        for k in range(len(name) + 1):
            found.append(name[:k] + name[k + 1:])
            for sign in "> ":
                found += [name[:k] + sign + name[k:], name[:k] + sign + name[k + 1:]]
    return sorted(set(found) - set(NAMES))


NO_NAMES = no_names()


class NamesTest(OwnChecks, unittest.TestCase):
    def test_there_are_seventy_three(self):
        self.assertEqual(len(set(NAMES)), 73)

    def test_ends(self):
        for name in NAMES:
            self.assertEqual(ends(name), ENDS[name])

    def test_backs(self):
        for name in NAMES:
            self.assertEqual(back_of(name), BACK[name])

    def test_marks_that_are_carried(self):
        for name in NAMES:
            with self.subTest(name=name):
                self.assertEqual(carried_by(name), CARRIED[name])
                self.check_own(carried_by, name)

    def test_functions(self):
        for name in NAMES:
            way = way_of(name)
            for thing in all_things(ENDS[name][0], 5):
                with self.subTest(name=name, thing=thing):
                    self.assertEqual(way(thing), FUNCTION[name](thing))

    def test_backs_lead_home(self):
        for name in NAMES:
            for thing in all_things(ENDS[name][0], 4):
                with self.subTest(name=name, thing=thing):
                    self.assertEqual(way_of(back_of(name))(way_of(name)(thing)), thing)

    def test_marks_are_alike_at_both_ends(self):
        for name in NAMES:
            one, other = ENDS[name]
            for thing in all_things(one, 6):
                led = way_of(name)(thing)
                for which in CARRIED[name]:
                    with self.subTest(name=name, mark=which, thing=thing):
                        self.assertEqual(mark(other, which, led), mark(one, which, thing))

    def test_what_is_not_one_of_the_first_family(self):
        for name in NAMES:
            for thing in HANDS[ENDS[name][0]].wrong:
                with self.subTest(name=name, thing=thing):
                    self.assertRaises(NoThing, way_of(name), thing)

    def test_any_other_text(self):
        for name in NO_NAMES:
            with self.subTest(name=name):
                self.assertRaises(NoWay, ends, name)
        for name in NO_NAMES[::7]:
            with self.subTest(name=name):
                self.assertRaises(NoWay, back_of, name)
                self.assertRaises(NoWay, way_of, name)
                self.assertRaises(NoWay, carried_by, name)

    def test_what_is_told_is_the_askers_own(self):
        for name in NAMES:
            for thing in all_things(ENDS[name][0], 3):
                self.check_own(way_of(name), thing)


class ChainTest(OwnChecks, unittest.TestCase):
    def test_one_name(self):
        for name in NAMES:
            self.assertEqual(chain_back([name]), [BACK[name]])
            self.assertEqual(carried([name]), CARRIED[name])
            for thing in all_things(ENDS[name][0], 3):
                self.assertEqual(chain([name])(thing), FUNCTION[name](thing))

    def test_twelve_names(self):
        self.assertEqual(len(ROUND), 12)
        for thing in all_things("brackets", 5) + [family_of("brackets").thing_of(40, 10 ** 20)]:
            wanted = thing
            for name in ROUND:
                wanted = FUNCTION[name](wanted)
            self.assertEqual(chain(ROUND)(thing), wanted)
            self.assertEqual(chain(chain_back(ROUND))(wanted), thing)
        self.assertEqual(chain_back(ROUND), [BACK[name] for name in ROUND[::-1]])
        self.assertEqual(carried(ROUND), [])

    def test_many_chains(self):
        chance = random.Random(73)
        for _ in range(150):
            word = chance.choice(families())
            names = some_chain(chance, word, chance.randint(2, 12))
            thing = chance.choice(all_things(word, 5))
            wanted = thing
            for name in names:
                wanted = FUNCTION[name](wanted)
            with self.subTest(names=names, thing=thing):
                self.assertEqual(chain(names)(thing), wanted)
                self.assertEqual(chain_back(names), [BACK[name] for name in names[::-1]])
                self.assertEqual(chain(chain_back(names))(wanted), thing)
                self.assertEqual(carried(names), [one for one in ("peaks", "returns", "height", "leaves", "rootage")
                                                  if all(one in CARRIED[name] for name in names)])

    def test_marks_that_a_chain_carries(self):
        self.assertEqual(carried(["brackets>turns", "turns>turns:mirror", "turns>bows:parts"]),
                         ["peaks", "returns", "height"])
        self.assertEqual(carried(["brackets>rooms", "rooms>stairs:parts"]), ["peaks", "returns"])
        self.assertEqual(carried(["brackets>twins", "twins>twins:mirror", "twins>brackets"]), [])
        self.assertEqual(carried(["codes>trees", "trees>cars"]), ["leaves", "rootage"])
        self.assertEqual(carried(["trees>cars", "cars>codes"]), [])
        self.check_own(carried, ["codes>trees", "trees>cars"])

    def test_what_is_not_one_of_the_first_family(self):
        chance = random.Random(19)
        for word, hand in HANDS.items():
            for length in (1, 2, 5, 12):
                go = chain(some_chain(chance, word, length))
                for thing in hand.wrong:
                    with self.subTest(word=word, thing=thing):
                        self.assertRaises(NoThing, go, thing)

    def test_names_are_as_they_were_and_may_be_changed_afterwards(self):
        names = ["brackets>stairs", "stairs>brackets", "brackets>bows"]
        go = chain(names)
        self.assertEqual(names, ["brackets>stairs", "stairs>brackets", "brackets>bows"])
        self.check_own(chain_back, names)
        names.append("bows>bows:turn")
        names[0] = "nonsense"
        self.assertEqual(go("(())"), [(0, 3), (1, 2)])
        names.clear()
        self.assertEqual(go("(())"), [(0, 3), (1, 2)])

    def test_what_a_chain_tells_is_the_askers_own(self):
        for names in (["rooms>rooms:gaps"], ["rooms>brackets", "brackets>rooms"], ["rooms>bows:feet", "bows>rooms:feet"]):
            for thing in all_things("rooms", 4):
                self.check_own(chain(names), thing)


class ChainRefusalTest(unittest.TestCase):
    def check_broken(self, names, place):
        for call in (chain, chain_back, carried):
            with self.subTest(names=names, call=call.__name__), self.assertRaises(Broken) as caught:
                call(names)
            self.assertEqual(caught.exception.place, place)
        for call in (lambda: held(names, names, 1), lambda: held(names, ["brackets>stairs"], 1),
                     lambda: held(["brackets>stairs"], names, 1)):
            with self.subTest(names=names), self.assertRaises(Broken) as caught:
                call()
            self.assertEqual(caught.exception.place, place)

    def check_no_way(self, names):
        for call in (chain, chain_back, carried):
            with self.subTest(names=names, call=call.__name__):
                self.assertRaises(NoWay, call, names)
        with self.subTest(names=names):
            self.assertRaises(NoWay, held, names, names, 1)
            self.assertRaises(NoWay, held, names, ["brackets>stairs"], 1)
            self.assertRaises(NoWay, held, ["brackets>stairs"], names, 1)

    def test_a_list_without_names(self):
        self.check_broken([], 0)

    def test_a_break_at_every_place(self):
        for place in range(1, 12):
            for broken in ("codes>trees", "cars>codes"):
                self.check_broken(ROUND[:place] + [broken] + ROUND[place + 1:], place)
                self.check_broken(ROUND[:place] + [broken], place)

    def test_every_two_ways(self):
        for one in NAMES[::5]:
            for other in NAMES:
                if ENDS[one][1] == ENDS[other][0]:
                    self.assertEqual(chain_back([one, other]), [BACK[other], BACK[one]])
                else:
                    with self.assertRaises(Broken) as caught:
                        chain_back([one, other])
                    self.assertEqual(caught.exception.place, 1)

    def test_no_way_at_every_place(self):
        for place in range(12):
            for wrong in ("", "brackets>floor", "brackets>brackets:parts", "brackets>stairs ", "x" * 60):
                self.check_no_way(ROUND[:place] + [wrong] + ROUND[place + 1:])
                self.check_no_way(ROUND[:place] + [wrong])

    def test_the_first_that_is_due_is_told(self):
        self.check_broken(["brackets>stairs", "bows>bows:turn", "nonsense"], 1)
        self.check_broken(["brackets>stairs", "bows>bows:turn", "codes>trees"], 1)
        self.check_broken(["brackets>stairs", "stairs>brackets", "bows>bows:turn", "nonsense"], 2)
        self.check_no_way(["brackets>stairs", "nonsense", "bows>bows:turn"])
        self.check_no_way(["nonsense", "bows>bows:turn", "codes>trees"])
        # A name that is no way's name is never one that does not fit.
        self.check_no_way(["brackets>stairs", "bows>bows:turns"])


class HeldTest(OwnChecks, unittest.TestCase):
    def search(self, ones, others, size):
        """The least number and its thing, or None, by a search by hand."""
        family = family_of(ENDS[ones[0]][0])
        for number in range(family.many(size)):
            thing = family.thing_of(size, number)
            first, second = thing, thing
            for name in ones:
                first = FUNCTION[name](first)
            for name in others:
                second = FUNCTION[name](second)
            if first != second:
                return (number, thing)
        return None

    def check_all_sizes(self, ones, others):
        found = []
        for size in range(1, 5) if ENDS[ones[0]][0] not in SEVEN else range(6):
            with self.subTest(ones=ones, others=others, size=size):
                told = held(ones, others, size)
                self.assertEqual(told, self.search(ones, others, size))
                found.append(told)
        return found

    def test_direct_ways_and_ways_by_parts_are_alike(self):
        for name in NAMES:
            if name + ":parts" in NAMES:
                for size in range(6):
                    self.assertIs(held([name], [name + ":parts"], size), None)

    def test_each_way_and_each_other_one_with_its_ends(self):
        for one in NAMES:
            for other in NAMES:
                if ENDS[one] == ENDS[other] and one != other:
                    self.check_all_sizes([one], [other])

    def test_many_chains(self):
        chance = random.Random(38)
        parted, alike = 0, 0
        while parted < 40 or alike < 12:
            word = chance.choice(families())
            ones = some_chain(chance, word, chance.randint(1, 4))
            others = some_chain(chance, word, chance.randint(1, 5))
            if ENDS[ones[-1]][1] == ENDS[others[-1]][1]:
                found = self.check_all_sizes(ones, others)
                parted += any(told is not None for told in found)
                alike += all(told is None for told in found)

    def test_a_chain_and_its_back(self):
        for name in NAMES:
            names = [name, BACK[name], name]
            for told in self.check_all_sizes([name], names):
                self.assertIs(told, None)

    def test_written_ones(self):
        self.assertEqual(held(["brackets>brackets:mirror"], ["brackets>twins", "twins>brackets"], 3), (1, "()(())"))
        self.assertIs(held(["brackets>brackets:mirror"], ["brackets>twins", "twins>brackets"], 2), None)
        mirrored = ["brackets>bows", "bows>bows:mirror", "bows>brackets"]
        self.assertIs(held(["brackets>brackets:mirror"], mirrored, 5), None)
        self.assertEqual(held(["trees>cars", "cars>codes"], ["trees>codes"], 2), None)
        self.assertEqual(held(["trees>cars", "cars>codes"], ["trees>codes"], 3), (3, [0, 3, 0]))

    def test_sizes_that_are_not_told(self):
        for size in WRONG_SIZES:
            with self.subTest(size=size):
                self.assertRaises(NoSize, held, ["brackets>bows"], ["brackets>bows:parts"], size)
                self.assertRaises(NoSize, held, ["cars>codes"], ["cars>codes"], size)
        for word in families():
            name = fitting(word)[0]
            least, most = (0, 5) if word in SEVEN else (1, 4)
            self.assertIs(held([name], [name], least), None)
            self.assertIs(held([name], [name], most), None)
            self.assertRaises(NoSize, held, [name], [name], least - 1)
            self.assertRaises(NoSize, held, [name], [name], most + 1)

    def test_chains_with_other_ends(self):
        for ones, others in ((["brackets>bows"], ["brackets>rooms"]), (["bows>brackets"], ["rooms>brackets"]),
                             (["brackets>bows"], ["bows>brackets"]), (["trees>codes"], ["trees>cars"]),
                             (["brackets>bows", "bows>rooms:feet"], ["brackets>bows"]), (["codes>cars"], ["trees>cars"])):
            with self.subTest(ones=ones, others=others):
                self.assertRaises(Apart, held, ones, others, 1)
                self.assertRaises(Apart, held, others, ones, 1)
                self.assertRaises(Apart, held, ones, others, 99)

    def test_the_order_of_refusals(self):
        no_way, broken, fits = ["nonsense"], ["brackets>bows", "trees>codes"], ["brackets>bows"]
        self.assertRaises(NoWay, held, no_way, broken, 99)
        self.assertRaises(Broken, held, broken, no_way, 99)
        self.assertRaises(NoWay, held, fits, no_way, 99)
        self.assertRaises(Broken, held, fits, broken, 99)
        self.assertRaises(NoWay, held, no_way, fits, 99)
        self.assertRaises(Broken, held, [], no_way, 99)
        self.assertRaises(NoWay, held, no_way, [], 99)
        with self.assertRaises(Broken) as caught:
            held(broken, [], 99)
        self.assertEqual(caught.exception.place, 1)
        self.assertRaises(Apart, held, fits, ["trees>codes"], -1)
        self.assertRaises(NoSize, held, fits, fits, -1)

    def test_what_is_told_is_the_askers_own(self):
        ones, others = ["rooms>rooms:gaps"], ["rooms>rooms:gapsback"]
        told = held(ones, others, 4)
        self.assertIsInstance(told, tuple)
        self.assertTrue(lists_in(told[1]))
        self.check_own(held, ones, others, 4)
        self.check_own(held, ["bows>bows:turn"], ["bows>bows:turnback"], 5)


if __name__ == "__main__":
    unittest.main()
