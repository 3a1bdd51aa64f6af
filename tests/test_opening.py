"""Which ways are open, and which rule shuts one (7; 3 a, b)."""

import unittest

from homeslopes.opening import open_ways, why_shut
from homeslopes.pages import book_of
from tests import plain
from tests.making import some_cases

EAGLE = ("eagle", "slope", "top", "home", 9, 3)
CHAIR = ("chair", "lift", "home", "top", 0, 5)
LANE = ("lane", "path", "top", "home", 7, 0)
HILL = ((EAGLE, CHAIR, LANE), "home", 100)
LETTERS = "lkjihgfedcba"
TWELVE = (tuple((letter, "path", "a", "b", 1, 1) for letter in LETTERS), "a", 20)


def ruled(w, *rules):
    return ("rule", 900000, 0, w, rules)


def told(hill, pages, w, t):
    """Whether w is open at t, and the rule that shuts it, which must tell the same."""
    book = book_of(pages)
    why = why_shut(hill, book, w, t)
    if (why is None) != (w in open_ways(hill, book, t)):
        raise AssertionError("open_ways and why_shut tell two things")
    return why


class ByThemselves(unittest.TestCase):
    def test_no_rules_at_all(self):
        self.assertEqual(open_ways(HILL, (), 0), ("eagle", "chair", "lane"))
        self.assertEqual(open_ways(HILL, (), 100), ("eagle", "chair", "lane"))
        self.assertIsNone(why_shut(HILL, (), "chair", 50))
        self.assertIsNone(told(HILL, [ruled("eagle")], "eagle", 7))

    def test_ahead_of_the_page(self):
        pages = [("rule", 0, 5, "eagle", (("never",),)), ("rule", 1, 8, "eagle", ())]
        self.assertEqual([told(HILL, pages, "eagle", t) for t in (0, 4, 5, 6, 7, 8, 9)],
                         [None, None, 0, 0, 0, None, None])

    def test_never(self):
        for w in ("eagle", "chair", "lane"):
            self.assertEqual({told(HILL, [ruled(w, ("never",))], w, t) for t in range(101)}, {0})

    def test_hours(self):
        pages = [ruled("lane", ("hours", 8, 17))]
        self.assertEqual([told(HILL, pages, "lane", t) for t in (0, 7, 8, 9, 16, 17, 18, 100)],
                         [0, 0, None, None, None, 0, 0, 0])

    def test_hours_at_the_ends_of_the_day(self):
        self.assertIsNone(told(HILL, [ruled("lane", ("hours", 0, 1))], "lane", 0))
        self.assertEqual(told(HILL, [ruled("lane", ("hours", 0, 1))], "lane", 1), 0)
        self.assertEqual(told(HILL, [ruled("lane", ("hours", 0, 100))], "lane", 100), 0)
        self.assertIsNone(told(HILL, [ruled("lane", ("hours", 100, 1000001))], "lane", 100))
        self.assertEqual(told(HILL, [ruled("lane", ("hours", 200, 300))], "lane", 100), 0)

    def test_least(self):
        for n in (5, 0, -5, 10 ** 59, -10 ** 59):
            for value, why in ((n - 1, 0), (n, None), (n + 1, None)):
                pages = [ruled("eagle", ("least", "snow", n)), ("read", 1, 3, "snow", value)]
                self.assertEqual(told(HILL, pages, "eagle", 3), why, (n, value))
                self.assertEqual(told(HILL, pages, "eagle", 2), 0)

    def test_most(self):
        for n in (5, 0, -5, 10 ** 59, -10 ** 59):
            for value, why in ((n - 1, None), (n, None), (n + 1, 0)):
                pages = [ruled("eagle", ("most", "wind", n)), ("read", 1, 3, "wind", value)]
                self.assertEqual(told(HILL, pages, "eagle", 3), why, (n, value))
                self.assertEqual(told(HILL, pages, "eagle", 2), 0)

    def test_a_post_that_reads_nothing(self):
        pages = [ruled("eagle", ("most", "wind", 5)), ("rule", 1, 0, "lane", (("least", "wind", -5),)),
                 ("read", 2, 0, "snow", 0)]
        self.assertEqual(told(HILL, pages, "eagle", 50), 0)
        self.assertEqual(told(HILL, pages, "lane", 50), 0)

    def test_the_last_reading_counts(self):
        pages = [ruled("eagle", ("most", "wind", 5)), ("read", 2, 3, "wind", 4), ("read", 1, 6, "wind", 6),
                 ("read", 4, 6, "wind", 7), ("read", 5, 9, "wind", 5)]
        self.assertEqual([told(HILL, pages, "eagle", t) for t in (2, 3, 5, 6, 8, 9, 100)],
                         [0, None, None, 0, 0, None, None])

    def test_looked(self):
        pages = [ruled("eagle", ("looked", 10)), ("look", 1, 5, "eagle")]
        self.assertEqual([told(HILL, pages, "eagle", t) for t in (0, 4, 5, 6, 14, 15, 16)],
                         [0, 0, None, None, None, 0, 0])

    def test_looked_for_one_moment(self):
        pages = [ruled("eagle", ("looked", 1)), ("look", 1, 5, "eagle")]
        self.assertEqual([told(HILL, pages, "eagle", t) for t in (4, 5, 6)], [0, None, 0])

    def test_looked_again(self):
        pages = [ruled("eagle", ("looked", 10)), ("look", 1, 5, "eagle"), ("look", 0, 12, "eagle")]
        self.assertEqual([told(HILL, pages, "eagle", t) for t in (14, 15, 21, 22)], [None, None, None, 0])

    def test_looked_ahead_of_the_rule(self):
        pages = [("rule", 7, 8, "eagle", (("looked", 10),)), ("look", 1, 5, "eagle")]
        self.assertEqual([told(HILL, pages, "eagle", t) for t in (4, 7, 8, 14, 15)], [None, None, None, None, 0])

    def test_a_look_of_another_slope(self):
        hill = ((EAGLE, ("hare", "slope", "top", "home", 9, 3)), "home", 100)
        pages = [ruled("eagle", ("looked", 10)), ("look", 1, 5, "hare")]
        self.assertEqual(told(hill, pages, "eagle", 6), 0)

    def test_looked_of_a_lift_or_path(self):
        for w in ("chair", "lane"):
            pages = [ruled(w, ("looked", 1000000)), ("look", 1, 0, "eagle")]
            self.assertEqual({told(HILL, pages, w, t) for t in range(101)}, {0})


class WithOthers(unittest.TestCase):
    def test_with_an_open_way_and_a_shut_one(self):
        pages = [ruled("eagle", ("with", "chair")), ("rule", 1, 5, "chair", (("never",),)), ("rule", 2, 9, "chair", ())]
        self.assertEqual([told(HILL, pages, "eagle", t) for t in (0, 4, 5, 8, 9)], [None, None, 0, 0, None])

    def test_with_itself(self):
        self.assertEqual(told(HILL, [ruled("eagle", ("with", "eagle"))], "eagle", 5), 0)
        pages = [ruled("eagle", ("hours", 0, 9), ("with", "eagle"))]
        self.assertEqual([told(HILL, pages, "eagle", t) for t in (5, 9)], [1, 0])

    def test_chains_through_all_twelve(self):
        for order in (LETTERS, LETTERS[::-1], LETTERS[6:] + LETTERS[:6]):
            chain = [("rule", at, 0, one, (("with", other),)) for at, (one, other) in enumerate(zip(order, order[1:]))]
            last = ("rule", 50, 0, order[-1], (("hours", 3, 6),))
            book = book_of(chain + [last])
            self.assertEqual(open_ways(TWELVE, book, 2), ())
            self.assertEqual(open_ways(TWELVE, book, 3), tuple(LETTERS))
            self.assertEqual(open_ways(TWELVE, book, 5), tuple(LETTERS))
            self.assertEqual(open_ways(TWELVE, book, 6), ())
            cut = book_of(chain + [last, ("rule", 60, 4, order[5], (("never",),))])
            self.assertEqual(open_ways(TWELVE, cut, 4), tuple(w for w in LETTERS if w in order[6:]))
            self.assertEqual([why_shut(TWELVE, cut, w, 4) for w in order], [0] * 6 + [None] * 6)

    def test_rings_are_shut(self):
        for many in (2, 3, 12):
            ring = LETTERS[:many]
            pages = [("rule", at, 0, one, (("hours", 0, 9), ("with", ring[at - 1]))) for at, one in enumerate(ring)]
            self.assertEqual(open_ways(TWELVE, book_of(pages), 5), tuple(LETTERS[many:]))
            self.assertEqual({told(TWELVE, pages, w, 5) for w in ring}, {1})
            self.assertEqual({told(TWELVE, pages, w, 9) for w in ring}, {0})

    def test_a_ring_that_is_opened_at_one_way(self):
        pages = [("rule", 0, 0, "a", (("with", "b"),)), ("rule", 1, 0, "b", (("with", "c"),)),
                 ("rule", 2, 0, "c", (("with", "a"),)), ("rule", 3, 7, "b", ())]
        self.assertEqual([told(TWELVE, pages, w, 6) for w in "abc"], [0, 0, 0])
        self.assertEqual([told(TWELVE, pages, w, 7) for w in "abc"], [None, None, None])

    def test_a_ring_beside_a_shut_way(self):
        pages = [("rule", 0, 0, "a", (("with", "b"),)), ("rule", 1, 0, "b", (("with", "a"),)),
                 ("rule", 2, 0, "c", (("never",),)), ("rule", 3, 0, "d", (("with", "e"), ("with", "a"))),
                 ("rule", 4, 0, "f", (("with", "e"), ("with", "c")))]
        self.assertEqual(open_ways(TWELVE, book_of(pages), 1), tuple("lkjihge"))
        self.assertEqual([told(TWELVE, pages, w, 1) for w in "abcdef"], [0, 0, 0, 1, None, 1])

    def test_with_several(self):
        pages = [("rule", 0, 0, "a", (("with", "b"), ("with", "c"), ("with", "d")))]
        self.assertIsNone(told(TWELVE, pages, "a", 1))
        for at, other in enumerate("bcd"):
            self.assertEqual(told(TWELVE, pages + [("rule", 1, 0, other, (("never",),))], "a", 1), at)


class Telling(unittest.TestCase):
    def test_in_the_hills_order(self):
        pages = [ruled("chair", ("never",))]
        self.assertEqual(open_ways(HILL, book_of(pages), 1), ("eagle", "lane"))
        turned = (HILL[0][::-1], "home", 100)
        self.assertEqual(open_ways(turned, book_of(pages), 1), ("lane", "eagle"))
        chained = book_of([("rule", 0, 0, "eagle", (("with", "lane"),)), ("rule", 1, 0, "chair", (("with", "eagle"),))])
        self.assertEqual(open_ways(HILL, chained, 1), ("eagle", "chair", "lane"))

    def test_none_is_open(self):
        pages = [("rule", at, 0, way[0], (("never",),)) for at, way in enumerate(HILL[0])]
        self.assertEqual(open_ways(HILL, book_of(pages), 1), ())

    def test_the_first_rule_that_does_not_hold(self):
        rules = (("hours", 0, 50), ("least", "snow", 30), ("most", "wind", 60), ("looked", 40), ("with", "chair"),
                 ("never",))
        pages = [("rule", 0, 0, "eagle", rules), ("read", 1, 5, "snow", 30), ("read", 2, 10, "wind", 60),
                 ("look", 3, 15, "eagle"), ("rule", 4, 0, "chair", (("hours", 20, 30),))]
        self.assertEqual([told(HILL, pages, "eagle", t) for t in (0, 5, 10, 15, 20, 29, 30, 49, 50, 60)],
                         [1, 2, 3, 4, 5, 5, 4, 4, 0, 0])
        turned = [("rule", 0, 0, "eagle", rules[::-1])] + pages[1:]
        self.assertEqual({told(HILL, turned, "eagle", t) for t in range(101)}, {0})

    def test_alike_rules(self):
        self.assertEqual(told(HILL, [ruled("lane", ("hours", 0, 9), ("hours", 0, 9), ("hours", 0, 5))], "lane", 5), 2)
        self.assertEqual(told(HILL, [ruled("lane", ("hours", 0, 9), ("hours", 0, 5), ("hours", 0, 5))], "lane", 5), 1)

    def test_whatever_the_order_and_when_asked_again(self):
        for chance, hill, pages in some_cases("opening", 150):
            mixed = list(pages)
            chance.shuffle(mixed)
            book = book_of(mixed)
            for t in range(hill[2] + 1):
                names = plain.opened(hill, pages, t)
                self.assertEqual(open_ways(hill, book, t), names)
                self.assertEqual(open_ways(hill, book, t), names)
                for way in hill[0]:
                    self.assertEqual(why_shut(hill, book, way[0], t), plain.why(hill, pages, way[0], t))


if __name__ == "__main__":
    unittest.main()
