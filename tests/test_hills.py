"""Names, ways and hills (4)."""

import copy
import unittest

from homeslopes.hills import is_hill, is_name, is_way, places, way_named
from tests import plain
from tests.making import exchanged, odd_things, some_cases

EAGLE = ("eagle", "slope", "top", "home", 9, 3)
CHAIR = ("chair", "lift", "home", "top", 0, 5)
HILL = ((EAGLE, CHAIR), "home", 100)
LETTERS = "abcdefghijklm"


def many_ways(many):
    return tuple((letter, "path", "a", "b", 1, 1) for letter in LETTERS[:many])


class Names(unittest.TestCase):
    def test_right_ones(self):
        for thing in ("a", "z", "home", "abcdefgh", "zzzzzzzz"):
            self.assertIs(is_name(thing), True, thing)

    def test_bounds_of_the_length(self):
        self.assertIs(is_name(""), False)
        self.assertIs(is_name("a"), True)
        self.assertIs(is_name("a" * 8), True)
        self.assertIs(is_name("a" * 9), False)
        self.assertIs(is_name("a" * 100000), False)

    def test_each_sign(self):
        letters = [chr(code) for code in range(0x250) if is_name(chr(code))]
        self.assertEqual("".join(letters), "abcdefghijklmnopqrstuvwxyz")
        for code in list(range(0x250)) + [0xFF41, 0x1D41A, 0x0430]:
            asked = "a" <= chr(code) <= "z"
            self.assertIs(is_name("x" + chr(code)), asked, code)
            self.assertIs(is_name(chr(code) + "x"), asked, code)

    def test_of_anything(self):
        for thing in odd_things():
            self.assertIs(is_name(thing), bool(plain.name(thing)))


class Ways(unittest.TestCase):
    def test_right_ones(self):
        for kind in ("slope", "lift", "path"):
            self.assertIs(is_way(("eagle", kind, "top", "home", 9, 3)), True)
        self.assertIs(is_way(("eagle", "path", "top", "top", 9, 3)), True)
        self.assertIs(is_way(("top", "path", "top", "top", 0, 0)), True)

    def test_kinds(self):
        for kind in ("slopes", "Slope", "", "way", "slope ", b"slope", None, ("slope",)):
            self.assertIs(is_way(("eagle", kind, "top", "home", 9, 3)), False)

    def test_bounds_of_the_paces(self):
        for pace, asked in ((-1, False), (0, True), (1000000, True), (1000001, False), (10 ** 59, False)):
            self.assertIs(is_way(EAGLE[:4] + (pace, 3)), asked, pace)
            self.assertIs(is_way(EAGLE[:4] + (9, pace)), asked, pace)

    def test_truths_are_no_paces(self):
        for truth in (True, False):
            self.assertIs(is_way(EAGLE[:4] + (truth, 3)), False)
            self.assertIs(is_way(EAGLE[:4] + (9, truth)), False)

    def test_names_in_their_places(self):
        for at in (0, 2, 3):
            for wrong in ("", "abcdefghi", "Top", None, 3):
                self.assertIs(is_way(EAGLE[:at] + (wrong,) + EAGLE[at + 1:]), False)

    def test_form(self):
        self.assertIs(is_way(list(EAGLE)), False)
        self.assertIs(is_way(EAGLE[:5]), False)
        self.assertIs(is_way(EAGLE + (1,)), False)
        self.assertIs(is_way(()), False)

    def test_of_anything(self):
        for thing in exchanged(EAGLE):
            self.assertIs(is_way(thing), bool(plain.way(thing)))


class Hills(unittest.TestCase):
    def test_right_ones(self):
        self.assertIs(is_hill(HILL), True)
        self.assertIs(is_hill(((EAGLE,), "afar", 1)), True)

    def test_how_many_ways(self):
        for many, asked in ((0, False), (1, True), (2, True), (11, True), (12, True), (13, False)):
            self.assertIs(is_hill((many_ways(many), "a", 5)), asked, many)

    def test_two_of_one_name(self):
        self.assertIs(is_hill(((EAGLE, EAGLE), "home", 100)), False)
        self.assertIs(is_hill(((EAGLE, CHAIR, ("eagle", "lift", "a", "b", 1, 1)), "home", 100)), False)
        self.assertIs(is_hill(((("top", "path", "home", "top", 1, 1),), "home", 100)), True)

    def test_from_a_place_to_itself(self):
        self.assertIs(is_hill(((("loop", "path", "home", "home", 1, 1),), "home", 100)), True)
        self.assertIs(is_hill((tuple((letter, "path", "a", "a", 1, 1) for letter in "ab"), "b", 100)), True)

    def test_bounds_of_dark(self):
        for dark, asked in ((-1, False), (0, False), (1, True), (1000000, True), (1000001, False), (True, False)):
            self.assertIs(is_hill((HILL[0], "home", dark)), asked, dark)

    def test_home(self):
        for home in ("", "Home", "abcdefghi", None, ("home",), b"home", 1):
            self.assertIs(is_hill((HILL[0], home, 100)), False)

    def test_form(self):
        self.assertIs(is_hill(list(HILL)), False)
        self.assertIs(is_hill((list(HILL[0]), "home", 100)), False)
        self.assertIs(is_hill(((EAGLE, list(CHAIR)), "home", 100)), False)
        self.assertIs(is_hill(HILL[:2]), False)
        self.assertIs(is_hill(HILL + (1,)), False)
        self.assertIs(is_hill(({EAGLE: CHAIR}, "home", 100)), False)

    def test_of_anything(self):
        for thing in exchanged(HILL):
            self.assertIs(is_hill(thing), bool(plain.hill(thing)))

    def test_made_ones(self):
        for _, hill, _ in some_cases("hills", 50):
            self.assertIs(is_hill(hill), True)


class Places(unittest.TestCase):
    def test_rising_each_once(self):
        self.assertEqual(places(HILL), ("home", "top"))
        ways = (("w", "path", "m", "b", 1, 1), ("v", "path", "z", "m", 0, 0), ("u", "lift", "b", "m", 1, 1))
        self.assertEqual(places((ways, "k", 5)), ("b", "k", "m", "z"))

    def test_home_is_one_though_no_way_leads_there(self):
        self.assertEqual(places(((("w", "path", "b", "b", 1, 1),), "a", 5)), ("a", "b"))
        self.assertEqual(places(((("w", "path", "b", "b", 1, 1),), "b", 5)), ("b",))

    def test_rings_and_ways_back(self):
        ways = (("u", "path", "a", "b", 1, 1), ("v", "path", "b", "c", 1, 1), ("w", "path", "c", "a", 1, 1),
                ("x", "path", "b", "a", 1, 1))
        self.assertEqual(places((ways, "b", 5)), ("a", "b", "c"))

    def test_sorted_as_texts_are(self):
        ways = (("u", "path", "b", "aa", 1, 1), ("v", "path", "ab", "a", 1, 1))
        self.assertEqual(places((ways, "aaa", 5)), ("a", "aa", "aaa", "ab", "b"))

    def test_most_places(self):
        ways = tuple((letter, "path", "s" + letter, "e" + letter, 1, 1) for letter in "abcdefghijkl")
        self.assertEqual(len(places((ways, "home", 5))), 25)

    def test_a_tuple_of_texts(self):
        self.assertIs(type(places(HILL)), tuple)


class WayNamed(unittest.TestCase):
    def test_the_way(self):
        self.assertEqual(way_named(HILL, "eagle"), EAGLE)
        self.assertEqual(way_named(HILL, "chair"), CHAIR)

    def test_none(self):
        for name in ("home", "top", "slope", "lift", "eagl", "eagles", "a"):
            self.assertIsNone(way_named(HILL, name), name)

    def test_a_way_called_like_a_place(self):
        ways = (("top", "path", "home", "top", 1, 2), ("home", "path", "top", "home", 3, 4))
        self.assertEqual(way_named((ways, "home", 5), "top"), ways[0])
        self.assertEqual(way_named((ways, "home", 5), "home"), ways[1])

    def test_of_twelve(self):
        ways = many_ways(12)
        for way in ways:
            self.assertEqual(way_named((ways, "a", 5), way[0]), way)
        self.assertIsNone(way_named((ways, "a", 5), "m"))


class Unchanged(unittest.TestCase):
    def test_what_is_handed_in_stays(self):
        thing = [["a"], {"b": [1]}, (1, [2])]
        kept = copy.deepcopy(thing)
        for asked in (is_name, is_way, is_hill):
            for part in (thing, tuple(thing), (thing,) * 3, (thing,) * 6):
                self.assertIs(asked(part), False)
        self.assertEqual(thing, kept)


if __name__ == "__main__":
    unittest.main()
