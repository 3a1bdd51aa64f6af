"""Looks at crowds (13; 3 g, its first half; 2)."""

import copy
import unittest

from homeslopes.crowdlooks import shows_crowd
from homeslopes.crowds import crowd
from homeslopes.hills import places
from homeslopes.pages import book_of
from tests import plain
from tests.making import exchanged, odd_things, some_busy_cases, some_starts, stretched

ONE = ((("down", "slope", "top", "home", 3, 2), ("up", "lift", "home", "top", 0, 1)), "home", 20)
STARTS = (("top", 15), ("top", 16), ("top", 16), ("home", 3), ("top", 17))
WALKS = ((("down", 15),), (("down", 16),), (("down", 17),), (), None)
DOWNS = (("down", 15), ("down", 16), ("down", 17))
RIGHT = (WALKS, ((3,), DOWNS))


class ShowsCrowd(unittest.TestCase):
    def asks(self, asked, thing, starts=STARTS, goer="walker", hill=ONE, book=()):
        self.assertIs(shows_crowd(hill, book, goer, starts, thing), asked, thing)
        days = plain.day(hill, book)
        self.assertIs(plain.shows_crowd(hill, book, days, goer, starts, thing), asked)

    def test_what_is_right(self):
        self.asks(True, RIGHT)
        self.asks(True, (WALKS[:4], ((0, 1, 2, 3), ())), STARTS[:4])
        self.asks(True, (WALKS[:4], ((3,), DOWNS)), STARTS[:4])
        self.asks(True, (WALKS[:4], ((0, 3), DOWNS[1:])), STARTS[:4])
        self.asks(True, ((None, (("down", 16),), (("down", 17),)), ((), DOWNS[1:])), (("top", 18),) + STARTS[1:3])
        self.asks(True, ((), ((), ())), ())

    def test_a_walk_left_out(self):
        for at in range(4):
            walks = WALKS[:at] + (None,) + WALKS[at + 1:]
            self.asks(False, (walks, RIGHT[1]))
            self.asks(False, (walks, ((), DOWNS)))
            self.asks(False, (walks, ((3,), DOWNS[1:])))
            self.asks(False, (walks, ((3,), DOWNS[:-1])))
        self.asks(False, (WALKS[:4], RIGHT[1]))
        self.asks(False, (WALKS[1:], RIGHT[1]))

    def test_one_walk_more(self):
        self.asks(False, (WALKS + (None,), RIGHT[1]))
        self.asks(False, (WALKS + ((),), RIGHT[1]))
        self.asks(False, (WALKS[:4] + ((("down", 17),),), RIGHT[1]))
        self.asks(False, (WALKS[:4] + ((("down", 17),),), ((3, 4), DOWNS)))

    def test_walks_exchanged(self):
        self.asks(True, ((WALKS[0], WALKS[2], WALKS[1], (), None), RIGHT[1]))
        self.asks(False, ((WALKS[1], WALKS[0], WALKS[2], (), None), RIGHT[1]))
        self.asks(True, ((WALKS[0], WALKS[1], None, (), WALKS[2]), RIGHT[1]))
        self.asks(False, ((WALKS[0], None, WALKS[2], (), WALKS[1]), RIGHT[1]))
        self.asks(False, (((), WALKS[1], WALKS[2], (), None), RIGHT[1]))

    def test_two_that_enter_one_way_at_one_moment(self):
        self.asks(False, ((WALKS[0], WALKS[1], WALKS[1], (), None), RIGHT[1]))
        self.asks(False, ((WALKS[1], WALKS[1], WALKS[2], (), None), RIGHT[1]))
        self.asks(False, ((WALKS[1], WALKS[1]), ((0, 1), ())), STARTS[:2])
        self.asks(True, ((WALKS[0], WALKS[1]), ((0, 1), ())), STARTS[:2])

    def test_a_walk_behind_dark(self):
        late = (("top", 17), ("top", 17))
        self.asks(False, (((("down", 17),), (("down", 18),)), ((0, 1), ())), late)
        self.asks(True, (((("down", 17),), (("down", 18),)), ((0, 1), ())), late, "rider")
        self.asks(True, (((("down", 17),), None), ((), (("down", 17),))), late)

    def test_a_walk_that_ends_elsewhere(self):
        starts = (("home", 0), ("top", 3))
        self.asks(True, (((("up", 4), ("down", 5)), (("down", 3),)), ((0, 1), ())), starts, "rider")
        self.asks(False, (((("up", 4),), (("down", 3),)), ((0, 1), ())), starts, "rider")
        self.asks(False, (((("up", 4), ("down", 5)), (("down", 3),)), ((0, 1), ())), starts, "walker")

    def test_a_cut_larger_or_smaller(self):
        smaller = (DOWNS[1:], DOWNS[:2], (DOWNS[0], DOWNS[2]))
        larger = (DOWNS + (("down", 18),), (("down", 14),) + DOWNS)
        for departures in smaller + larger:
            self.asks(False, (WALKS, ((3,), departures)))
        for given in ((), (2, 3), (3, 4), (0, 3), (0, 1, 2, 3, 4)):
            self.asks(False, (WALKS, (given, DOWNS)))
        self.asks(False, (WALKS, ((0, 1, 2, 3), ())))
        self.asks(False, (WALKS, ((0, 1, 2, 4), ())))
        self.asks(False, (WALKS, ((), DOWNS + (("up", 3),))))
        self.asks(False, (WALKS, ((4,), DOWNS)))

    def test_a_cut_of_as_many_that_is_none(self):
        self.asks(False, (WALKS, ((3,), (("down", 15), ("down", 16), ("down", 18)))))
        self.asks(False, (WALKS, ((3,), (("down", 15), ("down", 16), ("up", 17)))))
        self.asks(False, (WALKS, ((0,), DOWNS)))
        self.asks(False, (WALKS, ((2, 3), DOWNS[:2])))

    def test_not_rising(self):
        self.asks(True, (WALKS[:4], ((0, 1, 2, 3), ())), STARTS[:4])
        for given in ((1, 0, 2, 3), (3, 2, 1, 0), (0, 1, 1, 3), (0, 0, 1, 2, 3), (0, 1, 2, 2)):
            self.asks(False, (WALKS[:4], (given, ())), STARTS[:4])
        one, two, three = DOWNS
        for departures in ((three, two, one), (two, one, three), (one, two, two), (one, two, three, three)):
            self.asks(False, (WALKS, ((3,), departures)))

    def test_departures_of_no_way_or_moment(self):
        starts, walks = (("top", 17), ("top", 18)), ((("down", 17),), None)
        self.asks(True, (walks, ((), (("down", 17),))), starts)
        for departure in (
            ("down", -1), ("down", 21), ("lane", 17), ("top", 17), ("down", True), ("down", "17"), (None, 17), None,
            ("down", 17, 17), ("down",), ["down", 17], ("DOWN", 17), (b"down", 17), (17, "down"),
        ):
            self.asks(False, (walks, ((), (departure,))), starts)

    def test_numbers_of_no_start(self):
        starts, walks = (("home", 1), ("home", 2)), ((), ())
        self.asks(True, (walks, ((0, 1), ())), starts)
        for given in ((False, 1), (0, True), (0, 2), (-1, 1), (-1, 0), (1, 2), (0, "1"), (0, None), (0, (1,)), [0, 1]):
            self.asks(False, (walks, (given, ())), starts)

    def test_in_the_midst_of_a_span(self):
        book = (("rule", 0, 0, "down", (("hours", 15, 17),)),)
        self.asks(True, ((WALKS[0], WALKS[1], None), ((), DOWNS[:2])), STARTS[:3], book=book)
        self.asks(False, ((WALKS[0], WALKS[1], WALKS[2]), ((0, 1, 2), ())), STARTS[:3], book=book)
        for departures in (DOWNS[:2], DOWNS[1:], (DOWNS[0], DOWNS[2])):
            self.asks(departures == DOWNS[:2], ((WALKS[0], WALKS[1], None), ((), departures)), STARTS[:3], book=book)

    def test_whoever_waits_for_a_span(self):
        book = (("rule", 0, 0, "down", (("hours", 15, 17),)),)
        for starts in ((("top", 0),) * 3, (("top", 14),) * 3):
            self.asks(True, ((WALKS[0], WALKS[1], None), ((), DOWNS[:2])), starts, book=book)
            self.asks(False, ((WALKS[0], WALKS[1], None), ((2,), DOWNS[:1])), starts, book=book)
            self.asks(False, ((WALKS[0], WALKS[1], None), ((2,), DOWNS[1:2])), starts, book=book)
            self.asks(True, ((WALKS[0],), ((0,), ())), starts[:1], book=book)
            self.asks(False, ((WALKS[0],), ((), DOWNS[:1])), starts[:1], book=book)

    def test_behind_dark(self):
        for walks, given, asked in (((None, ()), (1,), True), (((), ()), (0, 1), False), ((None, ()), (0,), False)):
            thing = (walks, (given, ()))
            self.assertIs(shows_crowd(ONE, (), "walker", (("home", 21), ("home", 20)), thing), asked)

    def test_at_dark(self):
        self.asks(True, (((), None), ((0,), ())), (("home", 20), ("top", 20)))
        self.asks(False, (((), None), ((1,), ())), (("home", 20), ("top", 20)))

    def test_dark_above_60(self):
        hill = (ONE[0], "home", 1000000)
        late = 1000000 - 3
        starts = (("top", late), ("top", late), ("top", 0))
        walks = ((("down", late),), None, (("down", 77),))
        self.asks_long(True, hill, starts, (walks, ((2,), (("down", late),))))
        self.asks_long(False, hill, starts, (walks, ((0, 1), ())))
        self.asks_long(False, hill, starts, (walks, ((2,), (("down", late - 1),))))
        self.asks_long(False, hill, starts, (walks, ((), (("down", 77), ("down", late)))))
        behind = ((("down", late),), (("down", late + 1),), (("down", 77),))
        self.asks_long(False, hill, starts, (behind, ((0, 1, 2), ())))
        self.asks_long(False, (ONE[0], "home", 61), (("top", 61),), (((),), ((0,), ())))
        self.asks_long(True, (ONE[0], "home", 61), (("top", 61),), ((None,), ((), ())))

    def asks_long(self, asked, hill, starts, thing):
        self.assertIs(shows_crowd(hill, (), "walker", starts, thing), asked, thing)

    def test_of_anything(self):
        days = plain.day(ONE, ())
        small = (((("down", 17),), (), None), ((1,), (("down", 17),)))
        starts = (("top", 17), ("home", 1), ("top", 17))
        self.asks(True, small, starts)
        for thing in exchanged(small):
            before = repr(thing)
            told = shows_crowd(ONE, (), "walker", starts, thing)
            self.assertIs(told, plain.shows_crowd(ONE, (), days, "walker", starts, thing), thing)
            self.assertEqual(repr(thing), before)

    def test_odd_things_alone(self):
        for odd in odd_things():
            self.assertIs(shows_crowd(ONE, (), "walker", STARTS, odd), False)
            self.assertIs(shows_crowd(ONE, (), "walker", STARTS, (WALKS, odd)), False)
            self.assertIs(shows_crowd(ONE, (), "walker", STARTS, (odd, RIGHT[1])), False)


class Compared(unittest.TestCase):
    def test_crowds_changed_by_chance(self):
        told = {True: 0, False: 0}
        for chance, hill, pages in some_busy_cases("changed crowds", 300, 9, 5, 4):
            book, days, kept = book_of(pages), plain.day(hill, pages), copy.deepcopy(pages)
            starts = some_starts(chance, hill, chance.randint(1, 7), places(hill))
            right = crowd(hill, book, "walker", starts)
            for thing in [right] + [self.changed(chance, hill, starts, right) for _ in range(8)]:
                shown = shows_crowd(hill, book, "walker", starts, thing)
                self.assertIs(shown, plain.shows_crowd(hill, pages, days, "walker", starts, thing), thing)
                self.assertIs(shows_crowd(hill, book, "walker", starts, thing), shown)
                told[shown] += 1
            self.assertEqual(pages, kept)
        self.assertGreater(min(told.values()), 250, told)

    def changed(self, chance, hill, starts, thing):
        walks, given, departures = list(thing[0]), set(thing[1][0]), set(thing[1][1])
        for _ in range(chance.choice((1, 1, 2, 2, 3))):
            at = chance.randrange(len(starts))
            what = chance.choice(("walk", "given", "departure", "swap", "moved"))
            if what == "walk":
                walks[at] = chance.choice((None, (), walks[0]))
            if what == "swap":
                walks[at], walks[0] = walks[0], walks[at]
            if what == "given":
                given ^= {at}
            if what == "departure":
                departures ^= {(chance.choice(hill[0])[0], chance.randint(0, hill[2]))}
            if what == "moved" and departures:
                w, m = chance.choice(sorted(departures))
                departures = departures - {(w, m)} | {(w, m + chance.choice((-1, 1)))}
        return (tuple(walks), (tuple(sorted(given)), tuple(sorted(departures))))

    def test_long_days(self):
        for chance, hill, pages in some_busy_cases("long crowds", 40, 9, 5, 4):
            starts = some_starts(chance, hill, 6, places(hill))
            k = 100000
            walks, cut = crowd(hill, book_of(pages), "rider", starts)
            # A way lets in more on a long day, so each one is asked alone.
            long_hill, long_pages = stretched(hill, pages, k)
            for (place, t), steps in zip(starts, walks):
                if steps is not None:
                    alone = (tuple((w, m * k) for w, m in steps),)
                    for given in ((0,), ()):
                        thing = (alone, (given, ()))
                        told = shows_crowd(long_hill, book_of(long_pages), "rider", ((place, t * k),), thing)
                        self.assertIs(told, given == (0,))

    def test_the_order_of_the_pages(self):
        for chance, hill, pages in some_busy_cases("crowd look order", 40, 9, 5, 8):
            mixed = list(pages)
            chance.shuffle(mixed)
            starts = some_starts(chance, hill, 6, places(hill))
            thing = crowd(hill, book_of(pages), "rider", starts)
            self.assertIs(shows_crowd(hill, book_of(mixed), "rider", starts, thing), True)


if __name__ == "__main__":
    unittest.main()
