"""Looks at bars (10; 3 c; 2)."""

import copy
import unittest

from homeslopes.arriving import walk
from homeslopes.barlooks import shows_bar
from homeslopes.hills import places
from homeslopes.homing import bar, latest
from homeslopes.pages import book_of
from tests import plain
from tests.making import SPOTS, exchanged, odd_things, some_busy_cases, some_cases, stretched

UP = ("up", "lift", "home", "top", 0, 5)
DOWN = ("down", "slope", "top", "home", 9, 3)
LANE = ("lane", "path", "top", "hut", 4, 0)
STAIR = ("stair", "path", "hut", "top", 6, 8)
OUT = ("out", "path", "hut", "far", 3, 3)
HILL = ((UP, DOWN, LANE, STAIR, OUT), "home", 30)
# A walker comes home from top at 21 the latest, from hut at 15, from far never.
RIGHT = (("far", 0), ("hut", 16), ("top", 22))


class ShowsBar(unittest.TestCase):
    def asks(self, asked, thing, place="top", t=22, goer="walker", hill=HILL, book=()):
        self.assertIs(shows_bar(hill, book, goer, place, t, thing), asked, (thing, place, t))
        self.assertIs(plain.shows_bar(hill, plain.day(hill, book), goer, place, t, thing), asked)

    def test_of_t_and_later_moments(self):
        for t in range(31):
            self.asks(t >= 22, RIGHT, t=t)
            self.asks(t >= 16, RIGHT, "hut", t=t)
            self.asks(True, RIGHT, "far", t=t)
            self.asks(False, RIGHT, "home", t=t)

    def test_a_moment_one_earlier_and_later(self):
        self.asks(False, (("far", 0), ("hut", 16), ("top", 21)))
        self.asks(False, (("far", 0), ("hut", 15), ("top", 22)))
        self.asks(False, (("far", 0), ("hut", 16), ("top", 23)), t=22)
        self.asks(True, (("far", 0), ("hut", 17), ("top", 23)), t=23)
        self.asks(True, (("far", 19), ("hut", 16), ("top", 22)))
        self.asks(False, (("far", 20), ("hut", 16), ("top", 22)))
        self.asks(True, (("far", 20), ("hut", 17), ("top", 22)))
        self.asks(True, (("far", 29), ("hut", 26), ("top", 22)))
        self.asks(False, (("far", 29), ("hut", 27), ("top", 22)))

    def test_a_pair_left_out_or_put_in(self):
        self.asks(False, RIGHT[1:])
        self.asks(False, (("far", 0), ("top", 22)))
        self.asks(False, RIGHT[:2])
        self.asks(True, (("top", 27),), t=27)
        self.asks(False, (("top", 26),), t=27)
        self.asks(True, (("far", 30),), "far", t=30)
        self.asks(True, (("far", 0), ("top", 27)), t=27)

    def test_home_and_what_is_no_place(self):
        self.asks(False, (("far", 0), ("home", 30), ("hut", 16), ("top", 22)))
        self.asks(False, (("home", 0),), "home", t=30)
        self.asks(False, (("far", 0), ("gate", 9), ("hut", 16), ("top", 22)))
        self.asks(False, (("down", 9), ("far", 0), ("hut", 16), ("top", 22)))

    def test_not_rising_or_twice(self):
        self.asks(False, RIGHT[::-1])
        self.asks(False, (RIGHT[1], RIGHT[0], RIGHT[2]))
        self.asks(False, (RIGHT[0], RIGHT[0], RIGHT[1], RIGHT[2]))
        self.asks(False, (RIGHT[0], RIGHT[1], RIGHT[1], RIGHT[2]))
        self.asks(False, (("far", 0), ("far", 1), RIGHT[1], RIGHT[2]))

    def test_moments_below_0_and_behind_dark(self):
        self.asks(True, (("far", 0), ("hut", 16), ("top", 22)), "far")
        self.asks(False, (("far", -1), ("hut", 16), ("top", 22)), "far")
        self.asks(False, (("far", -10 ** 59), ("hut", 16), ("top", 22)), "far")
        self.asks(True, (("far", 9), ("hut", 30), ("top", 30)), "far")
        self.asks(False, (("far", 9), ("hut", 31), ("top", 30)), "far")
        self.asks(False, (("far", 9), ("hut", 10 ** 59), ("top", 30)), "far")

    def test_the_place_itself(self):
        self.asks(False, (("far", 0),))
        self.asks(False, ())
        self.asks(False, (), "far", t=30)
        self.asks(False, RIGHT, "gate", t=30)

    def test_on_the_way_at_dark(self):
        hill = ((("w", "path", "a", "b", 5, 6),), "b", 20)
        for m, asked in ((14, False), (15, False), (16, True), (20, True)):
            self.asks(asked, (("a", m),), "a", t=20, hill=hill)
        self.asks(True, (("a", 15),), "a", t=15, hill=hill, goer="rider")

    def test_shut_ways_and_ways_of_no_pace(self):
        hill = ((("w", "path", "a", "b", 5, 0), ("v", "path", "a", "b", 3, 0)), "b", 20)
        self.asks(True, (("a", 0),), "a", t=0, hill=hill, goer="rider")
        book = (("rule", 0, 0, "v", (("never",),)), ("rule", 1, 0, "w", (("hours", 3, 8),)),
                ("rule", 2, 12, "w", (("hours", 13, 15),)))
        for m in range(21):
            self.asks(m >= 15, (("a", m),), "a", t=m, hill=hill, book=book)
        for m in range(21):
            self.asks(m >= 8, (("a", m),), "a", t=m, hill=hill, book=book[:2])

    def test_of_anything(self):
        for place, t, asked in (("top", 22, RIGHT), ("far", 1, (("far", 1), ("top", 27)))):
            self.asks(True, asked, place, t=t)
            days = plain.day(HILL, ())
            for thing in exchanged(asked):
                before = repr(thing)
                told = shows_bar(HILL, (), "walker", place, t, thing)
                self.assertIs(told, plain.shows_bar(HILL, days, "walker", place, t, thing), thing)
                self.assertEqual(repr(thing), before)

    def test_true_and_false_are_no_moments(self):
        for m, asked in ((0, True), (False, False), (1, True), (True, False)):
            self.asks(asked, (("far", m),), "far", t=5)

    def test_odd_things_alone(self):
        for odd in odd_things():
            self.assertIs(shows_bar(HILL, (), "rider", "far", 3, odd), False)
            self.assertIs(shows_bar(HILL, (), "rider", "home", 3, odd), False)


class Compared(unittest.TestCase):
    def test_bars_by_chance(self):
        shown = 0
        for chance, hill, pages in list(some_cases("bars", 150, 12)) + list(some_busy_cases("busy bars", 150, 10)):
            book, days, kept = book_of(pages), plain.day(hill, pages), copy.deepcopy(pages)
            for goer in ("walker", "rider"):
                place, t = chance.choice(places(hill)), chance.randint(0, hill[2])
                for thing in self.some_bars(chance, hill, book, goer, place, t):
                    told = shows_bar(hill, book, goer, place, t, thing)
                    self.assertIs(told, plain.shows_bar(hill, days, goer, place, t, thing))
                    self.assertIs(shows_bar(hill, book, goer, place, t, thing), told)
                    if told:
                        shown += 1
                        self.assertIsNone(walk(hill, book, goer, place, t, hill[1]))
            self.assertEqual(pages, kept)
        self.assertGreater(shown, 400)

    def some_bars(self, chance, hill, book, goer, place, t):
        yield bar(hill, book, goer, place, t)
        last = dict(latest(hill, book, goer))
        tight = {spot: last.get(spot, -1) + 1 for spot in places(hill) if spot != hill[1]}
        yield tuple(sorted(tight.items()))
        for _ in range(8):
            near = {spot: m + chance.choice((-1, 0, 0, 0, 0, 1)) for spot, m in tight.items()}
            if chance.random() < 0.4:
                near[chance.choice(SPOTS)] = chance.randint(0, hill[2])
            if near and chance.random() < 0.4:
                del near[chance.choice(sorted(near))]
            yield tuple(sorted(near.items()))

    def test_on_a_long_day(self):
        for chance, hill, pages in some_cases("long bars", 40, 20, 30):
            k = 1000000 // hill[2]
            long_hill, long_pages = stretched(hill, pages, k)
            book, place = book_of(long_pages), chance.choice(places(hill))
            for t in (0, hill[2] * k // 2, hill[2] * k):
                told = bar(long_hill, book, "rider", place, t)
                self.assertIs(shows_bar(long_hill, book, "rider", place, t, told), told is not None)
                self.assertIs(told is None, walk(long_hill, book, "rider", place, t, "home") is not None)

    def test_the_order_of_the_pages(self):
        for chance, hill, pages in some_cases("bar order", 40, 12):
            mixed = list(pages)
            chance.shuffle(mixed)
            place = chance.choice(places(hill))
            thing = bar(hill, book_of(pages), "walker", place, hill[2])
            told = [shows_bar(hill, book_of(some), "walker", place, hill[2], thing) for some in (pages, mixed)]
            self.assertEqual(told, [thing is not None] * 2)


if __name__ == "__main__":
    unittest.main()
