"""Looks at walks (9, its second half; 3 c; 2)."""

import copy
import unittest

from homeslopes.arriving import arrivals, walk
from homeslopes.hills import places
from homeslopes.pages import book_of
from homeslopes.walklooks import shows_walk
from tests import plain
from tests.making import HILL, exchanged, odd_things, some_cases, stretched

BOOK = (
    ("rule", 0, 0, "down", (("hours", 12, 15),)),
    ("rule", 1, 20, "down", ()),
)
LOOP = ((("loop", "path", "home", "home", 2, 2),), "home", 9)


class ShowsWalk(unittest.TestCase):
    def asks(self, asked, thing, place="home", t=0, to="home", m=30, goer="walker", hill=HILL, book=BOOK):
        told = shows_walk(hill, book, goer, place, t, to, m, thing)
        self.assertIs(told, asked, (thing, place, t, to, m, goer))
        self.assertIs(plain.shows_walk(hill, book, goer, place, t, to, m, thing), asked)

    def test_the_moment_of_the_end(self):
        steps = (("lane", 0), ("stair", 4), ("down", 12))
        for m in (21, 22, 30):
            self.asks(True, steps, m=m)
        for m in (0, 12, 20):
            self.asks(False, steps, m=m)

    def test_waiting(self):
        for first in (0, 1, 4):
            self.asks(True, (("lane", first), ("stair", 8), ("down", 14)), m=23)
        self.asks(False, (("lane", 5), ("stair", 8), ("down", 14)), m=23)
        self.asks(True, (("down", 14),), "top", t=3)
        self.asks(True, (("down", 21),), "top", t=3)

    def test_the_spans_ends(self):
        for entered, asked in ((11, False), (12, True), (14, True), (15, False), (19, False), (20, True), (21, True)):
            self.asks(asked, (("down", entered),), "top", t=5)

    def test_not_ahead_of_t(self):
        for t, asked in ((0, True), (13, True), (14, True), (15, False), (30, False)):
            self.asks(asked, (("down", 14),), "top", t=t)

    def test_not_ahead_of_the_end_of_the_way_ahead(self):
        for entered, asked in ((4, False), (5, False), (6, True), (7, True)):
            self.asks(asked, (("lane", 2), ("stair", entered)), to="top", m=25)

    def test_a_way_that_starts_elsewhere(self):
        self.asks(False, (("down", 12),), "hut")
        self.asks(False, (("down", 12),), "home")
        self.asks(False, (("lane", 0), ("down", 12)))
        self.asks(False, (("stair", 3), ("lane", 12)), "hut", to="hut")

    def test_a_way_of_no_pace(self):
        self.asks(False, (("up", 0),), to="top")
        self.asks(True, (("up", 0),), to="top", goer="rider")
        self.asks(False, (("lane", 0),), to="hut", goer="rider")

    def test_not_behind_dark(self):
        self.asks(True, (("down", 21),), "top")
        self.asks(False, (("down", 22),), "top")
        self.asks(False, (("down", 22),), "top", m=31)
        self.asks(True, (("down", 27),), "top", goer="rider")
        self.asks(False, (("down", 28),), "top", goer="rider", m=40)
        self.asks(False, (("down", 21), ("lane", 30)), "top", to="hut", m=40)

    def test_the_end_is_where_it_is_to_lead(self):
        for to in ("home", "hut", "top"):
            self.asks(to == "top", (("lane", 0), ("stair", 4)), to=to)
            self.asks(to == "hut", (("lane", 0),), to=to)

    def test_no_step(self):
        for place in ("home", "hut", "top"):
            for to in ("home", "hut", "top"):
                for m in (6, 7, 8):
                    self.asks(place == to and m >= 7, (), place, t=7, to=to, m=m)

    def test_more_steps_than_are_needed(self):
        self.asks(True, (("loop", 0), ("loop", 3), ("loop", 5)), hill=LOOP, book=(), m=7)
        self.asks(False, (("loop", 0), ("loop", 3), ("loop", 5)), hill=LOOP, book=(), m=6)
        self.asks(False, (("loop", 3), ("loop", 3)), hill=LOOP, book=(), m=9)
        self.asks(False, (("loop", 3), ("loop", 0)), hill=LOOP, book=(), m=9)
        self.asks(True, (("loop", 7),), hill=LOOP, book=(), m=9)

    def test_of_anything(self):
        steps = (("lane", 0), ("stair", 4), ("down", 12))
        for thing in exchanged(steps):
            before = repr(thing)
            for m in (20, 21, 30):
                told = shows_walk(HILL, BOOK, "walker", "home", 0, "home", m, thing)
                self.assertIs(told, plain.shows_walk(HILL, BOOK, "walker", "home", 0, "home", m, thing), thing)
            self.assertEqual(repr(thing), before)

    def test_of_anything_where_a_moment_is_0_or_1(self):
        for thing in exchanged((("lane", 1),)):
            told = shows_walk(HILL, BOOK, "walker", "home", 0, "hut", 5, thing)
            self.assertIs(told, repr(thing) in ("(('lane', 0),)", "(('lane', 1),)"), thing)

    def test_true_and_false_are_no_moments(self):
        self.asks(True, (("lane", 1),), to="hut")
        self.asks(False, (("lane", True),), to="hut")
        self.asks(True, (("lane", 0),), to="hut")
        self.asks(False, (("lane", False),), to="hut")

    def test_moments_below_0_and_behind_dark(self):
        for entered in (-1, 31, -10 ** 59, 10 ** 59):
            self.asks(False, (("lane", entered),), to="hut")
        for odd in odd_things():
            told = shows_walk(HILL, BOOK, "walker", "home", 0, "home", 30, odd)
            self.assertIs(told, type(odd) is tuple and odd == ())


class Compared(unittest.TestCase):
    def test_every_walk_that_is_told(self):
        for chance, hill, pages in some_cases("shown", 200, 20):
            book, kept = book_of(pages), copy.deepcopy(pages)
            for goer in ("walker", "rider"):
                place, t = chance.choice(places(hill)), chance.randint(0, hill[2])
                came = dict(arrivals(hill, book, goer, place, t))
                for to in places(hill):
                    self.looked_at(hill, book, goer, place, t, to, came.get(to))
            self.assertEqual(pages, kept)

    def looked_at(self, hill, book, goer, place, t, to, m):
        steps = walk(hill, book, goer, place, t, to)
        if m is None:
            self.assertIs(shows_walk(hill, book, goer, place, t, to, hill[2], ()), False)
            return
        for later in (m, m + 1, hill[2]):
            self.assertIs(shows_walk(hill, book, goer, place, t, to, later, steps), True)
        self.assertIs(shows_walk(hill, book, goer, place, t, to, m - 1, steps), False)

    def test_walks_by_chance(self):
        shown = 0
        for chance, hill, pages in some_cases("by chance", 400, 12, 8):
            book, here = book_of(pages), chance.choice(places(hill))
            t, m, to = chance.randint(0, hill[2]), chance.randint(0, hill[2]), chance.choice(places(hill))
            for goer in ("walker", "rider"):
                for _ in range(10):
                    steps = self.some_steps(chance, hill, here, t)
                    told = shows_walk(hill, book, goer, here, t, to, m, steps)
                    self.assertIs(told, plain.shows_walk(hill, pages, goer, here, t, to, m, steps))
                    self.assertIs(shows_walk(hill, book, goer, here, t, to, m, steps), told)
                    shown += told and steps != ()
        self.assertGreater(shown, 20)

    def some_steps(self, chance, hill, place, t):
        steps = []
        for _ in range(chance.choice((0, 1, 1, 2, 3))):
            ways = [way for way in hill[0] if way[2] == place] or hill[0]
            way = chance.choice(ways)
            steps.append((way[0], t + chance.choice((-1, 0, 0, 0, 1, 2))))
            place, t = way[3], t + chance.choice(way[4:])
        return tuple(steps)

    def test_on_a_long_day(self):
        for chance, hill, pages in some_cases("long walks", 40, 20, 30):
            long_hill, long_pages = stretched(hill, pages, 1000000 // hill[2])
            book = book_of(long_pages)
            place = chance.choice(places(hill))
            for to, m in arrivals(long_hill, book, "rider", place, 0):
                self.looked_at(long_hill, book, "rider", place, 0, to, m)

    def test_the_order_of_the_pages(self):
        for chance, hill, pages in some_cases("walk order", 40, 12):
            mixed = list(pages)
            chance.shuffle(mixed)
            place = chance.choice(places(hill))
            steps = walk(hill, book_of(pages), "rider", place, 0, "home")
            for thing in (steps, ()):
                one = shows_walk(hill, book_of(pages), "rider", place, 0, "home", hill[2], thing)
                self.assertIs(shows_walk(hill, book_of(mixed), "rider", place, 0, "home", hill[2], thing), one)


if __name__ == "__main__":
    unittest.main()
