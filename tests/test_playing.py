"""Steps that keep safe, and shuttings that keep from home (12; 3 e; 2)."""

import copy
import random
import unittest

from homeslopes.games import safe
from homeslopes.hills import places, way_named
from homeslopes.homing import latest
from homeslopes.pages import book_of
from homeslopes.playing import shutting, step
from tests import plain
from tests.making import hours, some_busy_cases, some_busy_hill, some_cases, some_pages, stretched

FAST = ("fast", "slope", "top", "home", 3, 2)
SLOW = ("slow", "path", "top", "home", 9, 0)
LANE = ("lane", "path", "top", "hut", 4, 4)
LAST = ("last", "path", "hut", "home", 4, 5)
HILL = ((FAST, SLOW, LANE, LAST), "home", 30)
NAMES = ("fast", "lane", "last", "slow")


def with_one(shut, w):
    return tuple(sorted(shut + (w,)))


def entries(hill, days, goer, shut, place, t):
    """All (w, m, end, moment of the end) by which a goer may enter a way, also those that end behind dark."""
    for way in hill[0]:
        pace = plain.pace_of(way, goer)
        if way[2] == place and way[0] not in shut and pace > 0:
            for m in range(t, hill[2] + 1):
                if way[0] in days[m]:
                    yield way[0], m, way[3], m + pace


class Step(unittest.TestCase):
    def test_none_at_home(self):
        for left in (0, 1, 2):
            for t in (0, 7, 30):
                self.assertIsNone(step(HILL, (), "walker", left, (), "home", t))
                self.assertIsNone(step(HILL, (), "walker", left, ("fast",), "home", t))

    def test_none_of_one_who_is_not_safe(self):
        self.assertIsNotNone(step(HILL, (), "walker", 0, (), "top", 27))
        self.assertIsNone(step(HILL, (), "walker", 0, (), "top", 28))
        self.assertIsNotNone(step(HILL, (), "walker", 1, (), "top", 22))
        self.assertIsNone(step(HILL, (), "walker", 1, (), "top", 23))
        self.assertIsNotNone(step(HILL, (), "walker", 2, (), "top", 21))
        self.assertIsNone(step(HILL, (), "walker", 2, (), "top", 22))
        self.assertIsNone(step(HILL, (), "walker", 1, (), "hut", 0))
        self.assertIsNone(step(HILL, (), "walker", 0, NAMES, "top", 0))
        self.assertIsNone(step(HILL, (), "walker", 2, NAMES, "top", 0))

    def test_the_only_way(self):
        self.assertEqual(step(HILL, (), "walker", 0, (), "hut", 26)[0], "last")
        self.assertEqual(step(HILL, (), "walker", 0, ("fast", "slow"), "top", 22), ("lane", 22))
        self.assertEqual(step(HILL, (), "walker", 0, ("fast", "lane"), "top", 21), ("slow", 21))
        self.assertEqual(step(HILL, (), "walker", 0, ("fast", "lane", "last"), "top", 21), ("slow", 21))
        self.assertEqual(step(HILL, (hours("last", 12, 14),), "walker", 0, (), "hut", 13), ("last", 13))
        self.assertIsNone(step(HILL, (hours("last", 12, 14),), "walker", 0, (), "hut", 14))
        w, m = step(HILL, (hours("last", 12, 14),), "walker", 0, (), "hut", 3)
        self.assertIn((w, m), (("last", 12), ("last", 13)))

    def test_more_shut_than_two(self):
        ways = tuple((w, "path", "top", "home", 2, 2) for w in "abcdef")
        told = step((ways, "home", 9), (), "rider", 2, ("a", "b", "d"), "top", 7)
        self.assertIn(told, (("c", 7), ("e", 7), ("f", 7)))
        self.assertIsNone(step((ways, "home", 9), (), "rider", 2, ("a", "b", "d", "e"), "top", 3))
        self.assertEqual(step((ways, "home", 9), (), "rider", 0, ("a", "b", "d", "e", "f"), "top", 7), ("c", 7))

    def test_nobody_goes_in_rings(self):
        ways = (
            ("a", "path", "top", "hut", 1, 1), ("b", "path", "hut", "top", 1, 1), ("c", "path", "top", "home", 1, 1),
            ("d", "path", "hut", "home", 20, 20), ("e", "path", "top", "top", 1, 1),
        )
        hill = (ways, "home", 100)
        for left in (0, 1):
            spot, t, steps = "hut", 0, 0
            while spot != "home":
                w, t = step(hill, (), "walker", left, (), spot, t)
                way = way_named(hill, w)
                spot, t, steps = way[3], t + way[4], steps + 1
            self.assertLessEqual(steps, 2)


class Shutting(unittest.TestCase):
    def test_never_with_none_left(self):
        for t in range(28, 31):
            for w, m, end, behind in entries(HILL, plain.day(HILL, ()), "walker", (), "top", t):
                self.assertIs(shutting(HILL, (), "walker", 0, (), "top", t, w, m), False)

        self.assertIs(shutting(HILL, (), "walker", 0, (), "top", 3, "fast", 3), False)

    def test_the_last_way_home_is_shut(self):
        self.assertIs(shutting(HILL, (), "walker", 1, (), "hut", 0, "last", 0), True)
        self.assertIs(shutting(HILL, (), "walker", 1, (), "hut", 5, "last", 26), True)
        self.assertIs(shutting(HILL, (), "walker", 1, (), "top", 23, "fast", 23), True)
        self.assertIs(shutting(HILL, (), "walker", 1, (), "top", 23, "fast", 27), True)
        self.assertIs(shutting(HILL, (), "walker", 2, (), "top", 22, "fast", 22), True)

    def test_let_go(self):
        # A way that leads nowhere isn't shut: then none would be left for lane, or last, which are needed.
        hill = ((FAST, LANE, LAST, ("out", "path", "top", "far", 1, 1)), "home", 30)
        for m in (0, 5, 22):
            self.assertIs(shutting(hill, (), "walker", 1, ("fast",), "top", 0, "out", m), False)
        # Nor is lane, by which they are too late: then fast couldn't be shut any more.
        hill = ((FAST, LANE, LAST[:4] + (9, 9)), "home", 30)
        self.assertIs(shutting(hill, (), "walker", 1, (), "top", 18, "lane", 18), False)
        self.assertIs(shutting(hill, (), "walker", 1, (), "top", 18, "fast", 18), True)

    def test_behind_dark(self):
        self.assertIs(shutting(HILL, (), "walker", 0, (), "top", 28, "fast", 28), False)
        self.assertIs(shutting(HILL, (), "walker", 0, (), "top", 28, "lane", 30), False)


class Plays(unittest.TestCase):
    """Whole plays on a small hill, each thing tried."""

    def begin(self, hill, pages, goer):
        self.hill, self.book, self.goer = hill, book_of(pages), goer
        self.days = plain.day(hill, pages)
        self.game = plain.Game(hill, self.days, goer)
        self.gone, self.chased, self.told = set(), set(), {True: 0, False: 0}

    def safe_at(self, left, shut, place, t):
        return self.game.wins(place, t, frozenset(shut), left)

    def clauses(self, left, shut, place, t, told):
        """Point 12, clause by clause; where the step leads to, and when."""
        self.assertIs(type(told), tuple)
        w, m = told
        self.assertIs(type(m), int)
        ends = [(end, behind) for name, at, end, behind in entries(self.hill, self.days, self.goer, shut, place, t)
                if (name, at) == (w, m)]
        self.assertEqual(len(ends), 1, told)
        self.assertTrue(self.safe_at(left, shut, *ends[0]))
        if left > 0:
            for way in self.hill[0]:
                if way[0] not in shut:
                    self.assertTrue(self.safe_at(left - 1, with_one(shut, way[0]), place, m))
        return ends[0]

    def go_home(self, left, shut, place, t):
        """What is shut while one is on a way is seen at its end, so it is enough to try it there."""
        if (left, shut, place, t) in self.gone:
            return
        self.gone.add((left, shut, place, t))
        if place == self.hill[1]:
            self.assertLessEqual(t, self.hill[2])
            self.assertIsNone(step(self.hill, self.book, self.goer, left, shut, place, t))
            return
        told = step(self.hill, self.book, self.goer, left, shut, place, t)
        self.assertIsNotNone(told)
        self.assertEqual(step(self.hill, self.book, self.goer, left, shut, place, t), told)
        end, behind = self.clauses(left, shut, place, t, told)
        if left > 0:
            for m in range(t, told[1] + 1):
                for way in self.hill[0]:
                    if way[0] not in shut:
                        self.go_home(left - 1, with_one(shut, way[0]), place, m)
        self.go_home(left, shut, end, behind)

    def be_kept(self, left, shut, place, t):
        if (left, shut, place, t) in self.chased or t > self.hill[2]:
            return
        self.chased.add((left, shut, place, t))
        self.assertNotEqual(place, self.hill[1])
        for w, m, end, behind in entries(self.hill, self.days, self.goer, shut, place, t):
            told = shutting(self.hill, self.book, self.goer, left, shut, place, t, w, m)
            self.told[told] += 1
            if told is True:
                self.assertGreater(left, 0)
                self.assertFalse(self.safe_at(left - 1, with_one(shut, w), place, m))
                self.be_kept(left - 1, with_one(shut, w), place, m)
            else:
                self.assertIs(told, False)
                self.assertFalse(self.safe_at(left, shut, end, behind))
                self.be_kept(left, shut, end, behind)

    def each(self, hill, pages, goer, shut):
        self.begin(hill, pages, goer)
        for left in (0, 1, 2):
            for place in places(hill):
                for t in range(hill[2] + 1):
                    if self.safe_at(left, shut, place, t):
                        self.go_home(left, shut, place, t)
                    else:
                        self.assertIsNone(step(hill, self.book, goer, left, shut, place, t))
                        self.be_kept(left, shut, place, t)

    def test_every_play(self):
        shut_ones = gone = 0
        for chance, hill, pages in some_busy_cases("plays", 150, 8, 6, 3):
            kept = copy.deepcopy(pages)
            names = sorted(way[0] for way in hill[0])
            shut = tuple(sorted(chance.sample(names, min(len(names), chance.choice((0, 0, 1, 2))))))
            self.each(hill, pages, chance.choice(("walker", "rider")), shut)
            shut_ones += self.told[True]
            gone += len([one for one in self.gone if one[0] > 0])
            self.assertEqual(pages, kept)
        self.assertGreater(min(shut_ones, gone), 2000, (shut_ones, gone))

    def test_a_hill_of_many_ways_home(self):
        ways = tuple((w, "path", "top", "home", pace, pace) for w, pace in zip("abcd", (1, 2, 3, 5)))
        ways += (
            ("e", "path", "top", "hut", 1, 1), ("f", "path", "hut", "home", 1, 1), ("g", "path", "hut", "home", 3, 2),
        )
        self.each((ways, "home", 8), [hours("b", 2, 6)], "walker", ())
        self.assertGreater(self.told[True], 20)
        self.assertGreater(self.told[False], 20)


class Asked(unittest.TestCase):
    def test_safe_tells_who_is_led(self):
        for chance, hill, pages in list(some_cases("led", 12, 12)) + list(some_busy_cases("busy led", 12, 12, 9)):
            book = book_of(pages)
            for left in (0, 1, 2):
                rows = safe(hill, book, "rider", left)
                for shut, pairs in chance.sample(rows, min(5, len(rows))):
                    for place in places(hill):
                        for t in {0, dict(pairs).get(place, 0), min(dict(pairs).get(place, -1) + 1, hill[2])}:
                            told = step(hill, book, "rider", left - len(shut), shut, place, t)
                            asked = place != hill[1] and t <= dict(pairs).get(place, -1)
                            self.assertIs(told is not None, asked)

    def test_a_long_day(self):
        chance = random.Random("long steps")
        for _ in range(4):
            hill = some_busy_hill(chance, 40, 12, 4)
            hill, pages = stretched(hill, some_pages(chance, hill, 10), 25000)
            book = book_of(pages)
            for left in (0, 1, 2):
                for place, t in dict(safe(hill, book, "walker", left))[()]:
                    self.led_home(hill, book, left, place, t)

    def led_home(self, hill, book, left, place, t):
        """None is shut: the steps lead home in time, and by the latest moments of one fewer."""
        while place != hill[1]:
            w, m = step(hill, book, "walker", left, (), place, t)
            way = way_named(hill, w)
            self.assertEqual(way[2], place)
            self.assertGreaterEqual(m, t)
            place, t = way[3], m + way[4]
            self.assertLessEqual(t, dict(latest(hill, book, "walker"))[place])
        self.assertLessEqual(t, hill[2])

    def test_the_order_of_the_pages(self):
        for chance, hill, pages in some_busy_cases("play order", 30, 10, 6, 8):
            mixed = list(pages)
            chance.shuffle(mixed)
            one, other = book_of(pages), book_of(mixed)
            for left in (0, 1, 2):
                place, t = chance.choice(places(hill)), chance.randint(0, hill[2])
                told = step(hill, one, "walker", left, (), place, t)
                self.assertEqual(step(hill, other, "walker", left, (), place, t), told)
                if told is None:
                    for w, m, end, behind in entries(hill, plain.day(hill, pages), "walker", (), place, t):
                        self.assertIs(shutting(hill, one, "walker", left, (), place, t, w, m),
                                      shutting(hill, other, "walker", left, (), place, t, w, m))


if __name__ == "__main__":
    unittest.main()
