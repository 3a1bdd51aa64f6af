"""Where a goer arrives, how early, by which walk (9, its first half; 3 b, c)."""

import copy
import random
import unittest

from homeslopes.arriving import arrivals, walk
from homeslopes.hills import places
from homeslopes.pages import book_of
from tests import plain
from tests.making import HILL, NEVER, SPOTS, hours, some_cases, some_hill, some_pages, stretched


class Arrivals(unittest.TestCase):
    def test_by_the_goers_own_paces(self):
        self.assertEqual(arrivals(HILL, (), "walker", "home", 0), (("home", 0), ("hut", 4), ("top", 10)))
        self.assertEqual(arrivals(HILL, (), "rider", "home", 0), (("home", 0), ("top", 5)))
        self.assertEqual(arrivals(HILL, (), "rider", "hut", 2), (("home", 13), ("hut", 2), ("top", 10)))

    def test_the_place_itself(self):
        for t in (0, 7, 29, 30):
            self.assertIn(("top", t), arrivals(HILL, (), "walker", "top", t))
        self.assertEqual(arrivals(HILL, (), "walker", "top", 30), (("top", 30),))

    def test_just_at_dark_and_behind_it(self):
        self.assertEqual(arrivals(HILL, (), "walker", "top", 21), (("home", 30), ("top", 21)))
        self.assertEqual(arrivals(HILL, (), "walker", "top", 22), (("top", 22),))
        self.assertEqual(arrivals(HILL, (), "walker", "home", 20), (("home", 20), ("hut", 24), ("top", 30)))
        self.assertEqual(arrivals(HILL, (), "walker", "home", 21), (("home", 21), ("hut", 25)))

    def test_waiting(self):
        book = (hours("down", 12, 15),)
        self.assertEqual(arrivals(HILL, book, "walker", "top", 0)[0], ("home", 21))
        self.assertEqual(arrivals(HILL, book, "walker", "top", 12)[0], ("home", 21))
        self.assertEqual(arrivals(HILL, book, "walker", "top", 14)[0], ("home", 23))
        self.assertEqual(arrivals(HILL, book, "walker", "top", 15), (("top", 15),))

    def test_waiting_till_it_is_too_late(self):
        self.assertEqual(arrivals(HILL, (hours("down", 21, 31),), "walker", "top", 0)[0], ("home", 30))
        self.assertEqual(arrivals(HILL, (hours("down", 22, 31),), "walker", "top", 0), (("top", 0),))

    def test_who_is_on_a_way_ends_it(self):
        book = (hours("down", 3, 4),)
        self.assertEqual(arrivals(HILL, book, "walker", "top", 3), (("home", 12), ("hut", 16), ("top", 3)))
        self.assertEqual(arrivals(HILL, book, "walker", "top", 4), (("top", 4),))

    def test_the_second_span(self):
        book = (("rule", 0, 5, "down", NEVER), ("rule", 1, 9, "down", ()))
        self.assertEqual([dict(arrivals(HILL, book, "rider", "top", t))["home"] for t in (4, 5, 8, 9)], [7, 12, 12, 12])

    def test_a_round_way_that_is_earlier(self):
        ways = (("far", "path", "a", "c", 20, 1), ("near", "path", "a", "b", 3, 9), ("next", "path", "b", "c", 4, 9))
        self.assertEqual(arrivals((ways, "c", 50), (), "walker", "a", 1), (("a", 1), ("b", 4), ("c", 8)))
        self.assertEqual(arrivals((ways, "c", 50), (), "rider", "a", 1), (("a", 1), ("b", 10), ("c", 2)))
        book = (hours("next", 30, 51),)
        self.assertEqual(arrivals((ways, "c", 50), book, "walker", "a", 1), (("a", 1), ("b", 4), ("c", 21)))

    def test_from_a_place_to_itself(self):
        ways = (("loop", "path", "a", "a", 2, 2), ("out", "path", "a", "b", 3, 3))
        self.assertEqual(arrivals((ways, "b", 9), (), "walker", "a", 1), (("a", 1), ("b", 4)))
        self.assertEqual(walk((ways, "b", 9), (), "walker", "a", 1, "a"), ())

    def test_rings(self):
        ways = (("u", "path", "a", "b", 2, 0), ("v", "path", "b", "c", 2, 0), ("w", "path", "c", "a", 2, 0))
        self.assertEqual(arrivals((ways, "a", 9), (), "walker", "b", 3), (("a", 7), ("b", 3), ("c", 5)))
        self.assertEqual(arrivals((ways, "a", 9), (), "rider", "b", 3), (("b", 3),))

    def test_two_ways_of_one_start_and_end(self):
        ways = (("slow", "path", "a", "b", 8, 8), ("fast", "path", "a", "b", 2, 2))
        hill = (ways, "b", 20)
        self.assertEqual(arrivals(hill, (), "walker", "a", 0), (("a", 0), ("b", 2)))
        self.assertEqual(walk(hill, (), "walker", "a", 0, "b"), (("fast", 0),))
        self.assertEqual(walk(hill, (hours("fast", 9, 20),), "walker", "a", 0, "b"), (("slow", 0),))

    def test_the_longest_chain(self):
        spots = "abcdefghijklm"
        ways = tuple((spots[at + 1], "path", spots[at], spots[at + 1], at + 1, 1) for at in range(12))
        for order in (ways, ways[::-1]):
            told = arrivals((order, "m", 1000), (), "walker", "a", 5)
            self.assertEqual(told, tuple((spot, 5 + at * (at + 1) // 2) for at, spot in enumerate(spots)))
            self.assertEqual(len(walk((order, "m", 1000), (), "walker", "a", 5, "m")), 12)

    def test_great_paces(self):
        hill = ((("w", "path", "a", "b", 1000000, 999999),), "b", 1000000)
        self.assertEqual(arrivals(hill, (), "walker", "a", 0), (("a", 0), ("b", 1000000)))
        self.assertEqual(arrivals(hill, (), "walker", "a", 1), (("a", 1),))
        self.assertEqual(arrivals(hill, (), "rider", "a", 1), (("a", 1), ("b", 1000000)))


class Walks(unittest.TestCase):
    def test_the_steps(self):
        self.assertEqual(walk(HILL, (), "walker", "home", 3, "top"), (("lane", 3), ("stair", 7)))
        self.assertEqual(walk(HILL, (), "rider", "home", 3, "top"), (("up", 3),))
        book = (hours("stair", 12, 14),)
        self.assertEqual(walk(HILL, book, "walker", "hut", 3, "top"), (("stair", 12),))

    def test_of_the_place_itself(self):
        for t in (0, 13, 30):
            self.assertEqual(walk(HILL, (), "rider", "top", t, "top"), ())

    def test_none(self):
        self.assertIsNone(walk(HILL, (), "rider", "home", 0, "hut"))
        self.assertIsNone(walk(HILL, (), "walker", "top", 22, "home"))
        self.assertIsNone(walk(HILL, (("rule", 0, 0, "down", NEVER),), "rider", "top", 0, "home"))
        self.assertIsNone(walk(HILL, (), "rider", "top", 30, "home"))


class Compared(unittest.TestCase):
    def compare(self, hill, book, days, goer, place, t):
        told = arrivals(hill, book, goer, place, t)
        self.assertEqual(told, plain.arrivals(hill, days, goer, place, t))
        self.assertEqual(arrivals(hill, book, goer, place, t), told)
        self.shown(hill, book, goer, place, t, told)

    def shown(self, hill, book, goer, place, t, told):
        for to in places(hill):
            steps = walk(hill, book, goer, place, t, to)
            if to not in dict(told):
                self.assertIsNone(steps)
            else:
                self.assertIs(type(steps), tuple)
                self.assertEqual(plain.end_of_walk(hill, book, goer, place, t, steps), (to, dict(told)[to]))
                self.assertEqual(steps == (), to == place)
                self.assertEqual(walk(hill, book, goer, place, t, to), steps)

    def test_moment_by_moment(self):
        for chance, hill, pages in some_cases("arriving", 250, 20):
            mixed, kept = list(pages), copy.deepcopy(pages)
            chance.shuffle(mixed)
            days = plain.day(hill, pages)
            for goer in ("walker", "rider"):
                place = chance.choice(places(hill))
                for t in {0, hill[2], chance.randint(0, hill[2])}:
                    self.compare(hill, book_of(mixed), days, goer, place, t)
                    self.assertEqual(walk(hill, book_of(mixed), goer, place, t, "home"),
                                     walk(hill, book_of(pages), goer, place, t, "home"))
            self.assertEqual(pages, kept)

    def test_a_long_day_is_a_short_one_stretched(self):
        for chance, hill, pages in some_cases("long", 60, 20, 30):
            k = 1000000 // hill[2]
            long_hill, long_pages = stretched(hill, pages, k)
            book, days = book_of(long_pages), plain.day(hill, pages)
            place, t = chance.choice(places(hill)), chance.randint(0, hill[2])
            for goer in ("walker", "rider"):
                told = arrivals(long_hill, book, goer, place, t * k)
                short = plain.arrivals(hill, days, goer, place, t)
                self.assertEqual(told, tuple((spot, m * k) for spot, m in short))
                self.shown(long_hill, book, goer, place, t * k, told)

    def test_sixty_pages_on_a_long_day(self):
        chance = random.Random("sixty")
        for dark in (1000000, 700001):
            hill = some_hill(chance, dark, 12)
            book = book_of(some_pages(chance, hill, 60))
            for place in SPOTS[:2]:
                told = arrivals(hill, book, "walker", place, 3)
                self.shown(hill, book, "walker", place, 3, told)


if __name__ == "__main__":
    unittest.main()
