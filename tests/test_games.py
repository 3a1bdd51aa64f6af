"""How late one is safe, whatever is shut (11; 3 f; 2)."""

import copy
import itertools
import random
import unittest

from homeslopes.games import safe
from homeslopes.homing import latest
from homeslopes.pages import book_of
from tests import plain
from tests.making import hours, some_busy_cases, some_busy_hill, some_cases, some_hill, some_pages, stretched

FAST = ("fast", "slope", "top", "home", 3, 2)
SLOW = ("slow", "path", "top", "home", 9, 0)
LANE = ("lane", "path", "top", "hut", 4, 4)
LAST = ("last", "path", "hut", "home", 4, 5)
HILL = ((FAST, SLOW, LANE, LAST), "home", 30)


class Rows(unittest.TestCase):
    def test_none_let_in(self):
        self.assertEqual(safe(HILL, (), "walker", 0), (((), (("home", 30), ("hut", 26), ("top", 27))),))
        self.assertEqual(safe(HILL, (), "rider", 0), (((), (("home", 30), ("hut", 25), ("top", 28))),))

    def test_one_let_in(self):
        self.assertEqual(safe(HILL, (), "walker", 1), (
            ((), (("home", 30), ("top", 22))),
            (("fast",), (("home", 30), ("hut", 26), ("top", 22))),
            (("lane",), (("home", 30), ("hut", 26), ("top", 27))),
            (("last",), (("home", 30), ("top", 27))),
            (("slow",), (("home", 30), ("hut", 26), ("top", 27))),
        ))

    def test_two_let_in(self):
        rows = dict(safe(HILL, (), "walker", 2))
        self.assertEqual(rows[()], (("home", 30), ("top", 21)))
        self.assertEqual(rows[("fast",)], (("home", 30), ("top", 21)))
        self.assertEqual(rows[("slow",)], (("home", 30), ("top", 22)))
        self.assertEqual(rows[("lane",)], (("home", 30), ("top", 21)))
        self.assertEqual(rows[("fast", "lane")], (("home", 30), ("hut", 26), ("top", 21)))
        self.assertEqual(rows[("fast", "slow")], (("home", 30), ("hut", 26), ("top", 22)))
        self.assertEqual(rows[("lane", "slow")], (("home", 30), ("hut", 26), ("top", 27)))

    def test_three_ways_straight_home(self):
        ways = tuple((w, "path", "top", "home", pace, 0) for w, pace in (("a", 2), ("b", 5), ("c", 9)))
        told = [dict(dict(safe((ways, "home", 20), (), "walker", left))[()]).get("top") for left in (0, 1, 2)]
        self.assertEqual(told, [18, 15, 11])
        told = [dict(dict(safe((ways[:2], "home", 20), (), "walker", left))[()]).get("top") for left in (0, 1, 2)]
        self.assertEqual(told, [18, 15, None])
        for left in (0, 1, 2):
            self.assertEqual(dict(safe((ways, "home", 20), (), "rider", left))[()], (("home", 20),))

    def test_the_order_of_the_rows(self):
        ways = tuple((w, "path", "top", "home", 1, 1) for w in ("d", "b", "aa", "c"))
        rows = [shut for shut, pairs in safe((ways, "home", 9), (), "walker", 2)]
        self.assertEqual(rows, [
            (), ("aa",), ("b",), ("c",), ("d",),
            ("aa", "b"), ("aa", "c"), ("aa", "d"), ("b", "c"), ("b", "d"), ("c", "d"),
        ])
        rows = [shut for shut, pairs in safe((ways, "home", 9), (), "walker", 1)]
        self.assertEqual(rows, [(), ("aa",), ("b",), ("c",), ("d",)])

    def test_more_let_in_than_there_are_ways(self):
        hill = ((FAST,), "home", 9)
        self.assertEqual(safe(hill, (), "walker", 1), (((), (("home", 9),)), (("fast",), (("home", 9),))))
        self.assertEqual(safe(hill, (), "walker", 2), (((), (("home", 9),)), (("fast",), (("home", 9),))))
        two = ((FAST, SLOW), "home", 9)
        rows = [shut for shut, pairs in safe(two, (), "walker", 2)]
        self.assertEqual(rows, [(), ("fast",), ("slow",), ("fast", "slow")])

    def test_ways_of_no_pace_count_as_ways(self):
        rows = dict(safe(HILL, (), "rider", 1))
        self.assertEqual(rows[("slow",)], (("home", 30), ("hut", 25), ("top", 28)))
        self.assertEqual(rows[("fast",)], (("home", 30), ("hut", 25), ("top", 21)))

    def test_whoever_enters_a_way_must_be_in_time_for_another_if_it_is_shut(self):
        hill = ((FAST, SLOW), "home", 12)
        for rule, left, asked in (
            (("fast", 10, 12), 0, 3), (("fast", 10, 12), 1, None), (("fast", 9, 12), 0, 9), (("fast", 9, 12), 1, 3),
            (("fast", 2, 12), 1, 3), (("fast", 0, 3), 1, 2), (("slow", 0, 2), 0, 9), (("slow", 0, 2), 1, 1),
            (("slow", 4, 13), 0, 9), (("slow", 4, 13), 1, None), (("fast", 9, 12), 2, None),
        ):
            told = dict(safe(hill, (hours(*rule),), "walker", left))[()]
            self.assertEqual(dict(told).get("top"), asked, (rule, left))

    def test_who_is_on_a_way_ends_it(self):
        hill = ((("w", "path", "a", "b", 4, 4), ("x", "path", "b", "h", 1, 1), ("y", "path", "b", "h", 2, 2),
                 ("z", "path", "a", "b", 5, 5)), "h", 20)
        # Whoever enters w at 14 ends it also if it is shut at 15; if it is shut at 14, z leads to b at 19, and x home.
        self.assertEqual(dict(safe(hill, (), "walker", 1))[()], (("a", 14), ("b", 18), ("h", 20)))

    def test_a_way_shut_so_shuts_no_other(self):
        book = (("rule", 0, 0, "slow", (("with", "fast"),)),)
        self.assertEqual(safe(HILL, book, "walker", 2), safe(HILL, (), "walker", 2))
        shut = (("rule", 1, 0, "fast", (("never",),)),)
        self.assertEqual(dict(dict(safe(HILL, book + shut, "walker", 0))[()])["top"], 22)
        self.assertEqual(dict(dict(safe(HILL, shut, "walker", 0))[()])["top"], 22)
        self.assertEqual(dict(safe(HILL, shut, "walker", 1))[("lane",)], (("home", 30), ("hut", 26), ("top", 21)))
        self.assertEqual(dict(safe(HILL, book + shut, "walker", 1))[("lane",)], (("home", 30), ("hut", 26)))

    def test_at_home_one_is_safe(self):
        out = (("out", "path", "home", "far", 1, 1),)
        for left in (0, 1, 2):
            for shut, pairs in safe((out, "home", 5), (), "walker", left):
                self.assertEqual(pairs, (("home", 5),))


class Compared(unittest.TestCase):
    def test_moment_by_moment(self):
        found = [0, 0, 0]
        for chance, hill, pages in some_busy_cases("game", 250, 9, 7):
            mixed, kept = list(pages), copy.deepcopy(pages)
            chance.shuffle(mixed)
            days = plain.day(hill, pages)
            for goer in ("walker", "rider"):
                game = plain.Game(hill, days, goer)
                for left in (0, 1, 2):
                    told = safe(hill, book_of(mixed), goer, left)
                    self.assertEqual(told, game.rows(left))
                    self.assertEqual(safe(hill, book_of(pages), goer, left), told)
                    found[left] += len(told[0][1]) > 1
            self.assertEqual(pages, kept)
        self.assertGreater(min(found), 40, found)

    def test_with_none_let_in_it_is_latest(self):
        for chance, hill, pages in list(some_cases("none in", 60)) + list(some_busy_cases("busy none in", 60)):
            for goer in ("walker", "rider"):
                self.assertEqual(safe(hill, book_of(pages), goer, 0), (((), latest(hill, book_of(pages), goer)),))

    def test_rows_of_most_shut_are_latest_on_a_hill_without_these(self):
        # The rules ask for no other way, so a way taken from the hill is as one shut for good.
        chance = random.Random("without")
        for _ in range(15):
            hill = some_busy_hill(chance, 12, 6)
            book = (hours("eagle", 2, 9), hours("hare", 0, 5, 1), hours("lane", 4, 8, 2))
            for shut, pairs in safe(hill, book, "walker", 2):
                if len(shut) == 2:
                    ways = tuple(way for way in hill[0] if way[0] not in shut)
                    left = tuple(page for page in book if page[3] not in shut)
                    self.assertEqual(pairs, latest((ways, hill[1], hill[2]), left, "walker"))

    def no_later(self, one, other):
        self.assertTrue(all(m <= dict(other).get(place, -1) for place, m in one), (one, other))

    def falls(self, hill, book, goer):
        # told[(shut, more)]: where these are shut already and so many more are let in.
        told = {(shut, left - len(shut)): pairs for left in (0, 1, 2) for shut, pairs in safe(hill, book, goer, left)}
        for one, other in itertools.product(told, told):
            if set(one[0]) >= set(other[0]) and one[1] >= other[1]:
                self.no_later(told[one], told[other])
            if set(one[0]) < set(other[0]) and one[1] >= other[1] + len(other[0]) - len(one[0]):
                # What is let in may be shut at once, so it is no later than where it is shut already.
                self.no_later(told[one], told[other])

    def test_more_shut_or_let_in_is_no_later(self):
        for chance, hill, pages in list(some_busy_cases("falls", 40)) + list(some_cases("far falls", 15)):
            for goer in ("walker", "rider"):
                self.falls(hill, book_of(pages), goer)

    def test_twelve_ways_on_a_long_day(self):
        chance = random.Random("twelve")
        for pages in (0, 20, 60):
            hill = some_busy_hill(chance, 40, 12, 4)
            short = some_pages(chance, hill, pages)
            long_hill, long_pages = stretched(hill, short, 25000)
            told = safe(long_hill, book_of(long_pages), "walker", 2)
            as_short = safe(hill, book_of(short), "walker", 2)
            self.assertEqual([shut for shut, pairs in told], [shut for shut, pairs in as_short])
            self.assertEqual(len(told), 1 + 12 + 66)
            self.falls(long_hill, book_of(long_pages), "walker")
            self.assertEqual(dict(dict(told)[()])["home"], 1000000)

    def test_twelve_ways_moment_by_moment(self):
        chance = random.Random("twelve short")
        for make in (some_busy_hill, some_hill):
            hill = make(chance, 5, 12)
            pages = some_pages(chance, hill, 5)
            game = plain.Game(hill, plain.day(hill, pages), "rider")
            self.assertEqual(safe(hill, book_of(pages), "rider", 2), game.rows(2))


if __name__ == "__main__":
    unittest.main()
