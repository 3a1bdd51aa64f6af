"""From when to when a way is open, and the outlook (8; 3 a, b)."""

import random
import unittest

from homeslopes.opening import open_ways, why_shut
from homeslopes.pages import book_of, is_book
from homeslopes.spanning import outlook, spans
from tests import plain
from tests.making import some_cases, some_hill, some_pages, stretched

EAGLE = ("eagle", "slope", "top", "home", 9, 3)
CHAIR = ("chair", "lift", "home", "top", 0, 5)
HILL = ((EAGLE, CHAIR), "home", 20)
NEVER = (("never",),)


class Spans(unittest.TestCase):
    def test_all_day(self):
        self.assertEqual(spans(HILL, (), "eagle"), ((0, 21),))
        self.assertEqual(spans(HILL, (("rule", 0, 0, "eagle", (("hours", 0, 21),)),), "eagle"), ((0, 21),))
        self.assertEqual(spans(HILL, (("rule", 0, 0, "eagle", (("hours", 0, 1000001),)),), "eagle"), ((0, 21),))

    def test_never(self):
        self.assertEqual(spans(HILL, (("rule", 0, 0, "eagle", NEVER),), "eagle"), ())
        self.assertEqual(spans(HILL, (("rule", 0, 0, "eagle", (("hours", 21, 30),)),), "eagle"), ())

    def test_a_page_at_the_first_moment_and_at_dark(self):
        book = (("rule", 0, 0, "eagle", NEVER), ("rule", 1, 20, "eagle", ()))
        self.assertEqual(spans(HILL, book, "eagle"), ((20, 21),))
        book = (("rule", 0, 0, "eagle", ()), ("rule", 1, 20, "eagle", NEVER))
        self.assertEqual(spans(HILL, book, "eagle"), ((0, 20),))

    def test_only_at_the_first_moment(self):
        self.assertEqual(spans(HILL, (("rule", 0, 1, "eagle", NEVER),), "eagle"), ((0, 1),))
        self.assertEqual(spans((HILL[0], "home", 1), (("rule", 0, 1, "eagle", NEVER),), "eagle"), ((0, 1),))

    def test_hours(self):
        for a, b in ((0, 1), (5, 6), (5, 20), (5, 21), (20, 21)):
            self.assertEqual(spans(HILL, (("rule", 0, 0, "eagle", (("hours", a, b),)),), "eagle"), ((a, b),))
        self.assertEqual(spans(HILL, (("rule", 0, 8, "eagle", (("hours", 3, 12),)),), "eagle"), ((0, 12),))

    def test_nothing_parts_a_span(self):
        book = book_of([("rule", 0, 0, "eagle", (("hours", 2, 9),)), ("rule", 1, 5, "eagle", (("hours", 4, 9),)),
                        ("rule", 2, 9, "eagle", (("hours", 9, 12),)), ("read", 3, 6, "wind", 3),
                        ("look", 4, 7, "eagle"), ("rule", 5, 3, "chair", NEVER)])
        self.assertEqual(spans(HILL, book, "eagle"), ((2, 12),))
        self.assertEqual(spans(HILL, book, "chair"), ((0, 3),))

    def test_looks(self):
        book = book_of([("rule", 0, 0, "eagle", (("looked", 4),)), ("look", 1, 2, "eagle"), ("look", 2, 5, "eagle"),
                        ("look", 3, 12, "eagle"), ("look", 4, 16, "eagle"), ("look", 5, 20, "eagle")])
        self.assertEqual(spans(HILL, book, "eagle"), ((2, 9), (12, 21)))
        self.assertEqual(spans(HILL, book[:-1], "eagle"), ((2, 9), (12, 20)))

    def test_readings(self):
        book = book_of([("rule", 0, 0, "eagle", (("least", "snow", 3), ("most", "wind", 3))), ("read", 1, 2, "snow", 3),
                        ("read", 2, 4, "wind", 3), ("read", 3, 6, "snow", 2), ("read", 4, 8, "snow", 4),
                        ("read", 5, 9, "wind", 4)])
        self.assertEqual(spans(HILL, book, "eagle"), ((4, 6), (8, 9)))

    def test_with_another(self):
        book = book_of([("rule", 0, 3, "eagle", (("with", "chair"), ("hours", 0, 15))),
                        ("rule", 1, 0, "chair", (("hours", 5, 12),)), ("rule", 2, 14, "chair", ())])
        self.assertEqual(spans(HILL, book, "chair"), ((5, 12), (14, 21)))
        self.assertEqual(spans(HILL, book, "eagle"), ((0, 3), (5, 12), (14, 15)))


class Outlook(unittest.TestCase):
    def test_open_till_dark(self):
        for t in (0, 7, 20):
            self.assertEqual(outlook(HILL, (), "eagle", t), ("open", None, None))

    def test_shut_for_good(self):
        book = (("rule", 0, 0, "eagle", (("hours", 0, 5), ("never",))),)
        self.assertEqual([outlook(HILL, book, "eagle", t) for t in (0, 4, 5, 20)],
                         [("shut", 1, None), ("shut", 1, None), ("shut", 0, None), ("shut", 0, None)])

    def test_opened_and_shut(self):
        book = (("rule", 0, 0, "eagle", (("hours", 2, 15), ("least", "snow", 1))), ("read", 1, 5, "snow", 1),
                ("read", 2, 9, "snow", 0), ("read", 3, 11, "snow", 1))
        asked = {
            0: ("shut", 0, 5), 1: ("shut", 0, 5), 2: ("shut", 1, 5), 4: ("shut", 1, 5), 5: ("open", 9, 1),
            8: ("open", 9, 1), 9: ("shut", 1, 11), 10: ("shut", 1, 11), 11: ("open", 15, 0), 14: ("open", 15, 0),
            15: ("shut", 0, None), 20: ("shut", 0, None),
        }
        for t in asked:
            self.assertEqual(outlook(HILL, book, "eagle", t), asked[t], t)

    def test_shut_and_opened_just_at_dark(self):
        book = (("rule", 0, 20, "eagle", NEVER),)
        self.assertEqual([outlook(HILL, book, "eagle", t) for t in (0, 19, 20)],
                         [("open", 20, 0), ("open", 20, 0), ("shut", 0, None)])
        book = (("rule", 0, 0, "eagle", NEVER), ("rule", 1, 20, "eagle", ()))
        self.assertEqual([outlook(HILL, book, "eagle", t) for t in (0, 19, 20)],
                         [("shut", 0, 20), ("shut", 0, 20), ("open", None, None)])

    def test_a_way_shut_by_another_one(self):
        book = book_of([("rule", 0, 0, "eagle", (("hours", 0, 18), ("with", "chair"))),
                        ("rule", 1, 0, "chair", (("hours", 3, 9),))])
        self.assertEqual([outlook(HILL, book, "eagle", t) for t in (0, 3, 8, 9, 18)],
                         [("shut", 1, 3), ("open", 9, 1), ("open", 9, 1), ("shut", 1, None), ("shut", 0, None)])


class Compared(unittest.TestCase):
    def test_moment_by_moment(self):
        for chance, hill, pages in some_cases("spanning", 150):
            mixed = list(pages)
            chance.shuffle(mixed)
            book = book_of(mixed)
            days = plain.day(hill, pages)
            for way in hill[0]:
                self.assertEqual(spans(hill, book, way[0]), plain.spans(days, way[0]))
                for t in range(hill[2] + 1):
                    self.assertEqual(outlook(hill, book, way[0], t), plain.outlook(hill, pages, days, way[0], t))

    def test_a_long_day_is_a_short_one_stretched(self):
        for chance, hill, pages in some_cases("stretched", 60, 14, 30):
            k = 1000000 // hill[2]
            long_hill, long_pages = stretched(hill, pages, k)
            book, days, dark = book_of(long_pages), plain.day(hill, pages), hill[2]
            self.assertIs(is_book(long_hill, book), True)
            for way in hill[0]:
                asked = tuple((a * k, b * k if b <= dark else dark * k + 1) for a, b in plain.spans(days, way[0]))
                self.assertEqual(spans(long_hill, book, way[0]), asked)
                t = chance.randint(0, dark - 1)
                word, one, other = plain.outlook(hill, pages, days, way[0], t)
                longer = (word, one and one * k, other) if word == "open" else (word, one, other and other * k)
                for m in (t * k, t * k + chance.randint(0, k - 1), t * k + k - 1):
                    self.assertEqual(outlook(long_hill, book, way[0], m), longer)

    def test_sixty_pages_on_a_long_day(self):
        chance = random.Random("sixty")
        for dark in (1000000, 999983, 54321):
            hill = some_hill(chance, dark, 12)
            book = book_of(some_pages(chance, hill, 60))
            for way in hill[0]:
                self.look_round(chance, hill, book, way[0])

    def look_round(self, chance, hill, book, w):
        dark, told = hill[2], spans(hill, book, w)
        inside = {m for a, b in told for m in (a, b - 1)}
        outside = {m for a, b in told for m in (a - 1, b)}
        edges = sorted(m for m in inside | outside if 0 <= m <= dark)
        for t in edges + [chance.randint(0, dark) for _ in range(20)]:
            opened = any(a <= t < b for a, b in told)
            self.assertEqual(w in plain.opened(hill, book, t), opened, (w, t))
            self.assertFalse(opened and t in outside or not opened and t in inside)
        self.assertTrue(all(a < b <= dark + 1 for a, b in told))
        self.assertTrue(all(one[1] < other[0] for one, other in zip(told, told[1:])))
        for t in [m for m in edges if m % 3 == 0][:4] + [chance.randint(0, dark)]:
            self.assertEqual(outlook(hill, book, w, t), self.by_spans(hill, book, w, t, told))

    def by_spans(self, hill, book, w, t, told):
        why = why_shut(hill, book, w, t)
        self.assertEqual(why, plain.why(hill, book, w, t))
        if why is None:
            end = [b for a, b in told if a <= t < b][0]
            return ("open", end, why_shut(hill, book, w, end)) if end <= hill[2] else ("open", None, None)
        return ("shut", why, min((a for a, b in told if a > t), default=None))

    def test_as_open_ways_tells_it(self):
        for chance, hill, pages in some_cases("open ways", 30):
            book = book_of(pages)
            for way in hill[0]:
                told = spans(hill, book, way[0])
                moments = [t for a, b in told for t in range(a, b)]
                self.assertEqual(moments, [t for t in range(hill[2] + 1) if way[0] in open_ways(hill, book, t)])


if __name__ == "__main__":
    unittest.main()
