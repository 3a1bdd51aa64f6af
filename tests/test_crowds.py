"""As many of a crowd as can come home, and what shows that no more can (13; 3 g, its first half; 2)."""

import copy
import random
import unittest

from homeslopes.crowdlooks import shows_crowd
from homeslopes.crowds import crowd
from homeslopes.errors import HillError, TooLong
from homeslopes.hills import places
from homeslopes.homing import latest
from homeslopes.pages import book_of
from homeslopes.walklooks import shows_walk
from tests import plain
from tests.making import (
    HILL, NEVER, hours, some_busy_cases, some_busy_hill, some_cases, some_hill, some_pages, some_starts,
)

ONE = ((("down", "slope", "top", "home", 3, 2),), "home", 20)


class Told(unittest.TestCase):
    def told(self, hill, book, goer, starts, many):
        """What crowd tells, looked at clause by clause."""
        days = plain.day(hill, book)
        told = crowd(hill, book, goer, starts)
        self.assertIs(type(told), tuple)
        walks, cut = told
        self.assertTrue(plain.crowd_walks(hill, book, goer, starts, walks), (hill, book, starts, told))
        self.assertTrue(plain.crowd_cut(hill, days, goer, starts, cut), (hill, book, starts, told))
        coming = [steps for steps in walks if steps is not None]
        self.assertEqual(len(coming), many)
        self.assertEqual(len(cut[0]) + len(cut[1]), many)
        for (place, t), steps in zip(starts, walks):
            if steps is not None:
                self.assertIs(shows_walk(hill, book, goer, place, t, hill[1], hill[2], steps), True)
        self.assertIs(shows_crowd(hill, book, goer, starts, told), True)
        self.assertEqual(crowd(hill, book, goer, starts), told)
        return told


class Crowd(Told):
    def test_one_start(self):
        walks, cut = self.told(ONE, (), "walker", (("top", 17),), 1)
        self.assertEqual(walks, ((("down", 17),),))
        self.assertIn(cut, (((0,), ()), ((), (("down", 17),))))
        self.assertEqual(self.told(ONE, (), "walker", (("top", 18),), 0), ((None,), ((), ())))
        self.told(ONE, (), "rider", (("top", 18),), 1)

    def test_alike_starts(self):
        for t, many in ((0, 12), (6, 12), (7, 11), (16, 2), (17, 1), (18, 0), (20, 0)):
            self.told(ONE, (), "walker", (("top", t),) * 12, many)

    def test_one_at_a_time(self):
        starts = (("top", 15), ("top", 16), ("top", 16), ("top", 15), ("top", 17), ("top", 18))
        walks, (given, departures) = self.told(ONE, (), "walker", starts, 3)
        entered = sorted(step for steps in walks if steps for step in steps)
        self.assertEqual(entered, [("down", 15), ("down", 16), ("down", 17)])
        self.assertEqual(len(given) + len(departures), 3)

    def test_at_home(self):
        starts = (("home", 0), ("home", 20), ("home", 20), ("top", 20), ("top", 19))
        walks, (given, departures) = self.told(ONE, (), "walker", starts, 3)
        self.assertEqual(walks[3:], (None, None))
        self.assertEqual((given, departures), ((0, 1, 2), ()))
        self.told(HILL, (), "walker", (("home", 0),) * 12, 12)

    def test_places_without_a_way_home(self):
        hill = (ONE[0] + (("out", "path", "top", "far", 1, 1),), "home", 20)
        self.told(hill, (), "walker", (("far", 0), ("far", 0), ("top", 0)), 1)
        self.told(hill, (("rule", 0, 0, "down", NEVER),), "walker", (("far", 0), ("top", 0)), 0)
        self.told(hill, (("rule", 0, 0, "down", NEVER),), "walker", (("far", 0), ("top", 0), ("home", 3)), 1)

    def test_a_span_lets_in_as_many_as_it_has_moments(self):
        for a, b, many in ((0, 1, 1), (3, 6, 3), (15, 21, 3), (17, 18, 1), (18, 21, 0), (0, 21, 5)):
            self.told(ONE, (hours("down", a, b),), "walker", (("top", 0),) * 5, many)

    def test_who_was_brought_home_first_goes_another_way(self):
        # From hut the way over top has fewer steps, but whoever is at top has no other one.
        ways = (
            ("over", "path", "hut", "top", 1, 1), ("quick", "slope", "top", "home", 1, 1),
            ("a", "path", "hut", "pass", 1, 1), ("b", "path", "pass", "gate", 1, 1),
            ("c", "path", "gate", "home", 1, 1),
        )
        hill = (ways, "home", 20)
        pages = (hours("quick", 5, 6, 0), hours("over", 4, 5, 1), hours("a", 3, 4, 2))
        for book, starts in (
            (pages[:1], (("hut", 4), ("top", 5))), (pages[:2], (("hut", 3), ("top", 5))),
            (pages, (("hut", 3), ("top", 5))), (pages, (("hut", 2), ("top", 2))), (pages, (("top", 5), ("hut", 3))),
        ):
            self.told(hill, book, "walker", starts, 2)
            self.told(hill, book, "walker", starts + starts, 2 if len(book) == 3 else 3)

    def test_one_of_two_who_wait_goes_another_way(self):
        ways = tuple((w, "path", "hut", "top", 1, 1) for w in ("e", "f"))
        ways += tuple((w, "path", "top", "home", 1, 1) for w in ("g", "h"))
        ways += (
            ("a", "path", "hut", "pass", 1, 1), ("b", "path", "pass", "gate", 1, 1),
            ("c", "path", "gate", "inn", 1, 1), ("d", "path", "inn", "home", 1, 1),
        )
        book = tuple(hours(w, m, m + 1, m * 2 + at) for m, some in ((3, "a"), (4, "ef"), (5, "gh"))
                     for at, w in enumerate(some))
        for t, many in ((3, 3), (4, 2)):
            self.told((ways, "home", 20), book, "walker", (("hut", t), ("hut", t), ("top", 5)), many)
            self.told((ways, "home", 20), book, "walker", (("hut", t), ("hut", t), ("top", 5), ("top", 5)), many)

    def test_departures_rise_by_their_names(self):
        ways = tuple((w, "path", "top", "home", 2, 2) for w in ("z", "a", "m"))
        walks, cut = self.told((ways, "home", 4), (), "walker", (("top", 1),) * 12, 6)
        self.assertEqual(cut, ((), (("a", 1), ("a", 2), ("m", 1), ("m", 2), ("z", 1), ("z", 2))))

    def test_starts_behind_dark(self):
        for starts, told in (
            ((("home", 21),), ((None,), ((), ()))), ((("top", 21),), ((None,), ((), ()))),
            ((("home", 21), ("home", 20), ("top", 25)), ((None, (), None), ((1,), ()))),
        ):
            self.assertEqual(crowd(ONE, (), "rider", starts), told)
            self.assertIs(shows_crowd(ONE, (), "rider", starts, told), True)

    def test_who_needs_no_way_round(self):
        ways = (("quick", "slope", "top", "home", 2, 2), ("round", "path", "hut", "top", 1, 1),
                ("slow", "path", "hut", "home", 4, 4))
        hill, book = (ways, "home", 20), (hours("quick", 5, 6),)
        for starts in ((("hut", 3), ("top", 4)), (("top", 4), ("hut", 3))):
            self.told(hill, book, "walker", starts, 2)
        starts = (("hut", 3), ("top", 4), ("top", 5), ("hut", 3), ("hut", 17))
        self.told(hill, book, "walker", starts, 3)

    def test_a_narrow_way_behind_wide_ones(self):
        ways = tuple((w, "path", "top", "hut", 1, 1) for w in "abc") + (("z", "path", "hut", "home", 1, 1),)
        walks, (given, departures) = self.told((ways, "home", 4), (), "walker", (("top", 0),) * 12, 3)
        self.assertEqual((given, departures), ((), (("z", 1), ("z", 2), ("z", 3))))

    def test_ways_round_in_rings(self):
        ways = (("a", "path", "top", "hut", 1, 1), ("b", "path", "hut", "top", 1, 1), ("c", "path", "top", "top", 1, 1),
                ("d", "path", "home", "top", 1, 1), ("e", "path", "hut", "home", 3, 1))
        self.told((ways, "home", 9), (), "walker", (("top", 0),) * 12, 6)
        self.told((ways, "home", 9), (), "rider", (("top", 0),) * 12, 8)

    def test_dark_60_and_61(self):
        for dark in (1, 3, 59, 60):
            self.told((ONE[0], "home", dark), (), "walker", (("top", 0),), 1 if dark >= 3 else 0)
        for dark in (61, 62, 1000000):
            with self.assertRaises(TooLong) as caught:
                crowd((ONE[0], "home", dark), (), "walker", (("top", 0),))
            self.assertIsInstance(caught.exception, HillError)
        self.told((ONE[0], "home", 60), (), "walker", (("top", 57), ("top", 50), ("top", 57), ("home", 60)), 3)

    def test_on_the_plain_hill(self):
        self.told(HILL, (), "walker", (("hut", 15), ("hut", 15), ("top", 21), ("top", 20)), 2)
        self.told(HILL, (), "rider", (("hut", 19), ("hut", 18), ("top", 27), ("top", 20)), 3)


class Compared(Told):
    def test_by_all_choices(self):
        fewer = tight = 0
        for chance, hill, pages in some_busy_cases("all choices", 500, 7, 5, 4):
            mixed, kept = list(pages), copy.deepcopy(pages)
            chance.shuffle(mixed)
            goer = chance.choice(("walker", "rider"))
            starts = some_starts(chance, hill, chance.randint(1, 5), places(hill))
            many = plain.most_home(hill, plain.day(hill, pages), goer, starts)
            told = self.told(hill, book_of(mixed), goer, starts, many)
            self.assertEqual(crowd(hill, book_of(pages), goer, starts), told)
            last = dict(latest(hill, book_of(pages), goer))
            fewer += many < len([1 for place, t in starts if t <= last.get(place, -1)])
            tight += len(told[1][1]) > 0
            self.assertEqual(pages, kept)
        self.assertGreater(min(fewer, tight), 15, (fewer, tight))

    def test_crowds_of_twelve(self):
        chance = random.Random("twelve starts")
        for make in (some_busy_hill, some_busy_hill, some_hill):
            for ways in (2, 5, 9, 12):
                hill = make(chance, chance.randint(8, 60), ways)
                book = book_of(some_pages(chance, hill, chance.randint(0, 20)))
                starts = some_starts(chance, hill, 12, places(hill))
                kept = copy.deepcopy((hill, book, starts))
                walks, cut = crowd(hill, book, "walker", starts)
                self.told(hill, book, "walker", starts, len([1 for steps in walks if steps is not None]))
                self.assertEqual((hill, book, starts), kept)

    def test_starts_in_another_order(self):
        for chance, hill, pages in some_busy_cases("other order", 60, 12, 5):
            starts = list(some_starts(chance, hill, 12, places(hill)))
            walks, cut = crowd(hill, book_of(pages), "rider", tuple(starts))
            chance.shuffle(starts)
            many = len([1 for steps in walks if steps is not None])
            self.told(hill, book_of(pages), "rider", tuple(starts), many)

    def test_far_places(self):
        for chance, hill, pages in some_cases("far crowds", 40, 30, 20):
            starts = some_starts(chance, hill, 6, places(hill))
            walks, cut = crowd(hill, book_of(pages), "walker", starts)
            self.told(hill, book_of(pages), "walker", starts, len([1 for steps in walks if steps is not None]))



if __name__ == "__main__":
    unittest.main()
