"""The latest moments to come home, and what bars from home (10; 3 c, d; 2)."""

import copy
import random
import unittest

from homeslopes.arriving import arrivals
from homeslopes.barlooks import shows_bar
from homeslopes.hills import places
from homeslopes.homing import bar, latest
from homeslopes.pages import book_of
from tests import plain
from tests.making import (
    DOWN, HILL, NEVER, UP, hours, some_busy_cases, some_cases, some_hill, some_pages, stretched,
)


class Latest(unittest.TestCase):
    def test_by_the_goers_own_paces(self):
        self.assertEqual(latest(HILL, (), "walker"), (("home", 30), ("hut", 15), ("top", 21)))
        self.assertEqual(latest(HILL, (), "rider"), (("home", 30), ("hut", 19), ("top", 27)))

    def test_places_without_a_way_home(self):
        never = (("rule", 0, 0, "down", NEVER),)
        self.assertEqual(latest(HILL, never, "walker"), (("home", 30),))
        hill = ((UP, DOWN, ("stair", "path", "hut", "top", 0, 8), ("out", "path", "top", "far", 1, 1)), "home", 30)
        self.assertEqual(latest(hill, (), "walker"), (("home", 30), ("top", 21)))
        self.assertEqual(latest(hill, (), "rider"), (("home", 30), ("hut", 19), ("top", 27)))

    def test_home_touched_by_no_way(self):
        self.assertEqual(latest(((DOWN[:3] + ("hut", 1, 1),), "home", 7), (), "walker"), (("home", 7),))

    def test_a_way_that_ends_just_at_dark(self):
        for a, asked in ((20, 21), (21, 21), (22, None), (30, None)):
            self.assertEqual(dict(latest(HILL, (hours("down", a, 31),), "walker")).get("top"), asked)
        self.assertEqual(latest(((DOWN[:4] + (30, 31),), "home", 30), (), "walker"), (("home", 30), ("top", 0)))
        self.assertEqual(latest(((DOWN[:4] + (30, 31),), "home", 30), (), "rider"), (("home", 30),))

    def test_the_last_moment_of_a_span(self):
        book = (hours("down", 12, 15),)
        self.assertEqual(latest(HILL, book, "walker"), (("home", 30), ("hut", 8), ("top", 14)))
        book = (hours("down", 12, 15), hours("stair", 3, 5, 1))
        self.assertEqual(latest(HILL, book, "walker"), (("home", 30), ("hut", 4), ("top", 14)))
        book = (hours("down", 12, 15), hours("stair", 9, 25, 1))
        self.assertEqual(latest(HILL, book, "walker"), (("home", 30), ("top", 14)))

    def test_several_spans(self):
        book = (("rule", 0, 5, "down", NEVER), ("rule", 1, 9, "down", ()), ("rule", 2, 11, "down", NEVER),
                hours("stair", 0, 3, 3), ("rule", 4, 26, "down", ()))
        self.assertEqual(latest(HILL, book, "walker"), (("home", 30), ("hut", 2), ("top", 10)))
        self.assertEqual(latest(HILL, book, "rider"), (("home", 30), ("hut", 2), ("top", 27)))
        book += (("rule", 5, 28, "stair", ()),)
        self.assertEqual(latest(HILL, book, "rider"), (("home", 30), ("hut", 2), ("top", 27)))

    def test_the_way_round_is_later(self):
        ways = (("far", "path", "a", "c", 20, 1), ("near", "path", "a", "b", 3, 9), ("next", "path", "b", "c", 4, 9))
        self.assertEqual(latest((ways, "c", 50), (), "walker"), (("a", 43), ("b", 46), ("c", 50)))
        self.assertEqual(latest((ways, "c", 50), (), "rider"), (("a", 49), ("b", 41), ("c", 50)))

    def test_rings_and_loops(self):
        ways = (("u", "path", "a", "b", 2, 0), ("v", "path", "b", "a", 2, 0), ("w", "path", "a", "a", 1, 1),
                ("x", "path", "h", "h", 1, 1), ("y", "path", "a", "h", 0, 3), ("z", "path", "h", "b", 1, 1))
        self.assertEqual(latest((ways, "h", 9), (), "walker"), (("h", 9),))
        self.assertEqual(latest((ways, "h", 9), (), "rider"), (("a", 6), ("h", 9)))

    def test_the_longest_chain(self):
        spots = "abcdefghijklm"
        ways = tuple((spots[at + 1], "path", spots[at], spots[at + 1], at + 1, 1) for at in range(12))
        for order in (ways, ways[::-1]):
            told = latest((order, "m", 1000), (), "walker")
            self.assertEqual(told, tuple((spot, 922 + at * (at + 1) // 2) for at, spot in enumerate(spots)))

    def test_a_long_day(self):
        hill = ((DOWN[:4] + (1000000, 999999),), "home", 1000000)
        self.assertEqual(latest(hill, (), "walker"), (("home", 1000000), ("top", 0)))
        self.assertEqual(latest(hill, (), "rider"), (("home", 1000000), ("top", 1)))


class Bar(unittest.TestCase):
    def test_none(self):
        for t in range(22):
            self.assertIsNone(bar(HILL, (), "walker", "top", t))
        for t in (0, 13, 30):
            self.assertIsNone(bar(HILL, (("rule", 0, 0, "down", NEVER),), "walker", "home", t))

    def test_one_moment_too_late(self):
        for place, t in (("top", 22), ("hut", 16), ("top", 30), ("hut", 30)):
            told = bar(HILL, (), "walker", place, t)
            self.assertIs(shows_bar(HILL, (), "walker", place, t, told), True)
            self.assertIsNone(bar(HILL, (), "walker", place, 15 if place == "hut" else 21))

    def test_of_a_place_without_a_way(self):
        hill = ((DOWN,), "hut", 30)
        told = bar(hill, (), "walker", "top", 0)
        self.assertIs(shows_bar(hill, (), "walker", "top", 0, told), True)


class Compared(unittest.TestCase):
    def test_latest_by_all_arrivals(self):
        cases = list(some_cases("latest", 120, 12)) + list(some_busy_cases("busy latest", 120, 14))
        several = 0
        for chance, hill, pages in cases:
            mixed, kept = list(pages), copy.deepcopy(pages)
            chance.shuffle(mixed)
            days = plain.day(hill, pages)
            for goer in ("walker", "rider"):
                told = latest(hill, book_of(mixed), goer)
                self.assertEqual(told, plain.latest(hill, days, goer))
                self.assertEqual(latest(hill, book_of(pages), goer), told)
                self.assertEqual(dict(told)[hill[1]], hill[2])
                several += len(told) > 2
            self.assertEqual(pages, kept)
        self.assertGreater(several, 100)

    def test_a_goer_comes_home_just_where_it_is_no_later(self):
        for chance, hill, pages in some_busy_cases("no later", 80, 10):
            book = book_of(pages)
            for goer in ("walker", "rider"):
                last = dict(latest(hill, book, goer))
                for place in places(hill):
                    for t in range(hill[2] + 1):
                        came = hill[1] in dict(arrivals(hill, book, goer, place, t))
                        self.assertIs(came, t <= last.get(place, -1))

    def test_a_long_day_is_a_short_one_stretched(self):
        for chance, hill, pages in some_cases("long latest", 60, 20, 30):
            k = 1000000 // hill[2]
            long_hill, long_pages = stretched(hill, pages, k)
            for goer in ("walker", "rider"):
                last = latest(long_hill, book_of(long_pages), goer)
                as_short = latest(hill, book_of(pages), goer)
                self.assertEqual([place for place, m in last], [place for place, m in as_short])
                self.at_the_latest(long_hill, book_of(long_pages), goer, last)

    def at_the_latest(self, hill, book, goer, last):
        for place, m in last:
            self.assertIn(hill[1], dict(arrivals(hill, book, goer, place, m)))
            if place != hill[1]:
                self.assertNotIn(hill[1], dict(arrivals(hill, book, goer, place, m + 1)))

    def test_sixty_pages_on_a_long_day(self):
        chance = random.Random("sixty latest")
        for dark in (1000000, 700001):
            hill = some_hill(chance, dark, 12)
            book = book_of(some_pages(chance, hill, 60))
            self.at_the_latest(hill, book, "rider", latest(hill, book, "rider"))

    def test_bar_clause_by_clause(self):
        barred = 0
        for chance, hill, pages in list(some_cases("bar", 100, 12)) + list(some_busy_cases("busy bar", 100, 12)):
            mixed = list(pages)
            chance.shuffle(mixed)
            book, days = book_of(mixed), plain.day(hill, pages)
            for goer in ("walker", "rider"):
                for place in places(hill):
                    for t in {0, hill[2], chance.randint(0, hill[2])}:
                        told = bar(hill, book, goer, place, t)
                        self.assertEqual(bar(hill, book_of(pages), goer, place, t), told)
                        came = hill[1] in dict(plain.arrivals(hill, days, goer, place, t))
                        self.assertIs(told is None, came)
                        if told is not None:
                            barred += 1
                            self.clauses(hill, days, goer, place, t, told)
                            self.assertIs(shows_bar(hill, book, goer, place, t, told), True)
        self.assertGreater(barred, 500)

    def clauses(self, hill, days, goer, place, t, told):
        self.assertIs(type(told), tuple)
        spots = [spot for spot, m in told]
        self.assertEqual(spots, sorted(set(spots)))
        self.assertLessEqual(set(spots), set(places(hill)) - {hill[1]})
        self.assertTrue(all(type(m) is int and 0 <= m <= hill[2] for spot, m in told))
        self.assertLessEqual(dict(told)[place], t)
        self.assertTrue(plain.bar_keeps(hill, days, goer, dict(told)))


if __name__ == "__main__":
    unittest.main()
