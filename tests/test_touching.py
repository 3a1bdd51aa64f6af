"""What a page touches, and how far it reaches (16; 3 h, b; 2)."""

import copy
import random
import unittest

from homeslopes.opening import open_ways, why_shut
from homeslopes.pages import book_of, is_page
from homeslopes.touching import reach, touched
from tests import plain, plain_touching
from tests.making import some_cases, some_hanging_cases, some_hill, some_page, some_pages, stretched, stretched_page

NEVER = (("never",),)
HILL = (
    (
        ("eagle", "slope", "top", "home", 9, 3), ("chair", "lift", "home", "top", 0, 5),
        ("lane", "path", "home", "hut", 4, 4), ("bowl", "slope", "top", "hut", 2, 2),
    ),
    "home",
    20,
)


def rule(number, moment, w, *rules):
    return ("rule", number, moment, w, rules)


class Touched(unittest.TestCase):
    def asks(self, asked, pages, page, hill=HILL):
        self.assertEqual(touched(hill, book_of(pages), page), asked)
        self.assertEqual(plain_touching.touched(hill, pages, page), asked)

    def test_nothing(self):
        self.asks((), [], ("read", 0, 0, "wind", 5))
        self.asks((), [], ("look", 0, 0, "eagle"))
        self.asks((), [], rule(0, 0, "eagle"))
        self.asks((), [], rule(0, 0, "eagle", ("hours", 0, 21)))
        self.asks((), [rule(1, 0, "eagle", ("never",))], rule(0, 3, "eagle", ("hours", 21, 30)))
        self.asks((), [rule(5, 3, "eagle", ("never",))], rule(4, 3, "eagle"))
        self.asks((), [rule(5, 0, "eagle", ("least", "wind", 3))], ("read", 0, 0, "wind", 2))

    def test_a_rule(self):
        self.asks((("eagle", 0, 21),), [], rule(0, 0, "eagle", ("never",)))
        self.asks((("eagle", 20, 21),), [], rule(0, 20, "eagle", ("never",)))
        self.asks((("eagle", 4, 7), ("eagle", 9, 21)), [], rule(0, 4, "eagle", ("hours", 7, 9)))
        self.asks((("eagle", 4, 12),), [rule(1, 12, "eagle")], rule(0, 4, "eagle", ("never",)))
        self.asks((("eagle", 7, 9),), [rule(1, 0, "eagle", ("never",))], rule(0, 4, "eagle", ("hours", 7, 9)))
        self.asks((("eagle", 3, 21),), [rule(4, 3, "eagle", ("never",))], rule(5, 3, "eagle"))

    def test_a_read(self):
        pages = [rule(1, 0, "eagle", ("least", "wind", 3)), rule(2, 0, "chair", ("most", "wind", 3))]
        self.asks((("chair", 5, 21), ("eagle", 5, 21)), pages, ("read", 0, 5, "wind", 3))
        self.asks((("chair", 5, 21),), pages, ("read", 0, 5, "wind", 2))
        self.asks((("eagle", 5, 21),), pages, ("read", 0, 5, "wind", 4))
        self.asks((), pages, ("read", 0, 5, "snow", 4))
        pages += [("read", 3, 8, "wind", 9)]
        self.asks((("chair", 5, 8),), pages, ("read", 0, 5, "wind", 2))
        self.asks((("chair", 10, 21), ("eagle", 10, 21)), pages, ("read", 0, 10, "wind", 2))

    def test_a_look(self):
        pages = [rule(1, 0, "eagle", ("looked", 6))]
        self.asks((("eagle", 5, 11),), pages, ("look", 0, 5, "eagle"))
        self.asks((("eagle", 16, 21),), pages, ("look", 0, 16, "eagle"))
        self.asks((), pages, ("look", 0, 5, "bowl"))
        pages += [("look", 2, 3, "eagle"), ("look", 3, 10, "eagle")]
        self.asks((("eagle", 9, 10),), pages, ("look", 0, 5, "eagle"))
        self.asks((("eagle", 16, 18),), pages, ("look", 0, 12, "eagle"))
        self.asks((("eagle", 2, 3),), pages, ("look", 0, 2, "eagle"))
        self.asks((), pages, ("look", 0, 3, "eagle"))

    def test_ways_that_hang_on_others(self):
        pages = [rule(1, 0, "chair", ("with", "eagle")), rule(2, 0, "lane", ("with", "chair"), ("hours", 8, 21)),
                 rule(3, 0, "bowl", ("with", "lane"), ("hours", 0, 10))]
        self.asks((("bowl", 8, 10), ("chair", 4, 12), ("eagle", 4, 12), ("lane", 8, 12)),
                  pages + [rule(4, 12, "eagle")], rule(5, 4, "eagle", ("never",)))

    def test_round_and_round(self):
        pages = [rule(1, 0, "chair", ("with", "eagle"))]
        self.asks((("chair", 4, 21), ("eagle", 4, 21)), pages, rule(2, 4, "eagle", ("with", "chair")))
        self.asks((("eagle", 4, 21),), [], rule(2, 4, "eagle", ("with", "eagle")))

    def test_a_way_opened_and_another_shut_at_once(self):
        pages = [rule(1, 0, "eagle", ("least", "wind", 3)), rule(2, 0, "chair", ("most", "wind", 2)),
                 ("read", 3, 0, "wind", 0)]
        self.asks((("chair", 6, 21), ("eagle", 6, 21)), pages, ("read", 4, 6, "wind", 7))

    def test_opened_and_shut_in_turn_is_one_row(self):
        # From 5 on the page shuts the way, from 8 on it opens it: the books differ all along.
        pages = [rule(1, 0, "eagle", ("hours", 5, 8))]
        self.asks((("eagle", 5, 12),), pages, rule(2, 5, "eagle", ("hours", 8, 12)))

    def test_rising_by_name(self):
        pages = [rule(number, 0, w, ("most", "wind", 3)) for number, w in enumerate(("lane", "eagle", "bowl", "chair"))]
        told = touched(HILL, book_of(pages), ("read", 9, 2, "wind", 0))
        self.assertEqual(told, tuple((w, 2, 21) for w in ("bowl", "chair", "eagle", "lane")))

    def test_great_moments(self):
        hill = (HILL[0], "home", 1000000)
        book = (rule(1, 0, "eagle", ("hours", 1000, 1000001)), rule(2, 0, "chair", ("with", "eagle")))
        self.assertEqual(touched(hill, book, rule(3, 900000, "eagle", ("never",))),
                         (("chair", 900000, 1000001), ("eagle", 900000, 1000001)))
        self.assertEqual(touched(hill, book, rule(3, 1000000, "eagle", ("never",))),
                         (("chair", 1000000, 1000001), ("eagle", 1000000, 1000001)))
        self.assertEqual(touched(hill, book, rule(3, 7, "eagle")), (("chair", 7, 1000), ("eagle", 7, 1000)))
        looks = (rule(1, 0, "eagle", ("looked", 1000000)),)
        self.assertEqual(touched(hill, looks, ("look", 2, 0, "eagle")), (("eagle", 0, 1000000),))
        self.assertEqual(touched(hill, looks, ("look", 2, 1, "eagle")), (("eagle", 1, 1000001),))


class Reach(unittest.TestCase):
    def asks(self, asked, pages, page, hill=HILL):
        self.assertEqual(reach(hill, book_of(pages), page), asked)
        self.assertEqual(plain_touching.reach(hill, pages, page), asked)

    def test_a_read(self):
        pages = [rule(1, 0, "eagle", ("hours", 1, 5), ("least", "wind", 3)), rule(2, 9, "chair", ("most", "wind", 0)),
                 rule(3, 0, "lane", ("least", "snow", 3)), rule(4, 0, "bowl", ("with", "lane"), ("looked", 4))]
        self.asks((("chair", "eagle"), 4, 21), pages, ("read", 0, 4, "wind", 3))
        self.asks((("bowl", "lane"), 20, 21), pages, ("read", 0, 20, "snow", 3))
        self.asks(((), 4, 21), pages, ("read", 0, 4, "light", 3))
        self.asks(((), 4, 21), [], ("read", 0, 4, "wind", 3))

    def test_rules_of_elder_and_later_pages_count(self):
        pages = [rule(1, 0, "eagle", ("least", "wind", 3)), rule(2, 2, "eagle"),
                 rule(3, 20, "chair", ("most", "wind", 3))]
        self.asks((("chair", "eagle"), 5, 21), pages, ("read", 0, 5, "wind", 3))

    def test_a_look(self):
        pages = [rule(1, 0, "eagle", ("looked", 3)), rule(2, 0, "chair", ("with", "eagle")),
                 rule(3, 0, "lane", ("looked", 3)), rule(4, 0, "bowl", ("hours", 1, 3))]
        self.asks((("chair", "eagle"), 5, 21), pages, ("look", 0, 5, "eagle"))
        self.asks(((), 5, 21), pages, ("look", 0, 5, "bowl"))
        self.asks(((), 5, 21), pages[1:], ("look", 0, 5, "eagle"))

    def test_a_rule(self):
        self.asks((("eagle",), 5, 21), [], rule(0, 5, "eagle"))
        self.asks((("eagle",), 5, 21), [], rule(0, 5, "eagle", ("with", "chair"), ("least", "wind", 3), ("looked", 3)))
        self.asks((("chair", "eagle"), 5, 21), [rule(1, 9, "chair", ("with", "eagle"))], rule(0, 5, "eagle"))
        self.asks((("chair",), 5, 9), [rule(1, 9, "chair", ("with", "eagle"))], rule(0, 5, "chair"))
        self.asks((("eagle",), 5, 21), [], rule(0, 5, "eagle", ("with", "eagle")))

    def test_over_several_steps(self):
        pages = [rule(1, 0, "bowl", ("with", "lane")), rule(2, 0, "lane", ("with", "chair")),
                 rule(3, 0, "chair", ("with", "eagle"))]
        self.asks((("bowl", "chair", "eagle", "lane"), 5, 21), pages, rule(0, 5, "eagle"))
        self.asks((("bowl", "chair", "lane"), 5, 21), pages, rule(0, 5, "chair"))
        pages += [rule(4, 0, "eagle", ("most", "wind", 3))]
        for number in (0, 7):
            self.asks((("bowl", "chair", "eagle", "lane"), 5, 21), pages, ("read", number, 5, "wind", 3))
        turned = [rule(1, 0, "chair", ("with", "eagle")), rule(2, 0, "lane", ("with", "chair")),
                  rule(3, 0, "bowl", ("with", "lane"))]
        self.asks((("bowl", "chair", "eagle", "lane"), 5, 21), turned, rule(0, 5, "eagle"))
        rings = pages + [rule(6, 0, "chair", ("with", "bowl"))]
        self.asks((("bowl", "chair", "lane"), 5, 21), rings, rule(0, 5, "bowl"))

    def test_a_post_called_like_a_way(self):
        pages = [rule(1, 0, "chair", ("least", "eagle", 3)), rule(2, 0, "lane", ("with", "eagle")),
                 rule(3, 0, "bowl", ("with", "chair")), rule(4, 0, "eagle", ("looked", 4)),
                 ("look", 5, 8, "eagle"), ("rule", 6, 9, "eagle", ()), ("read", 7, 10, "eagle", 3)]
        self.asks((("bowl", "chair"), 5, 10), pages, ("read", 0, 5, "eagle", 3))
        self.asks((("eagle", "lane"), 5, 8), pages, ("look", 0, 5, "eagle"))
        self.asks((("eagle", "lane"), 5, 9), pages, ("rule", 0, 5, "eagle", ()))

    def test_the_next_page_that_tells_of_the_same(self):
        pages = [("read", 3, 2, "wind", 1), ("read", 4, 6, "snow", 1), ("read", 5, 9, "wind", 1),
                 ("read", 6, 12, "wind", 1)]
        for moment, number, end in ((0, 0, 2), (2, 0, 2), (2, 2, 2), (2, 7, 9), (3, 7, 9), (8, 7, 9), (9, 0, 9),
                                    (9, 7, 12), (11, 7, 12), (12, 5, 12), (12, 7, 21), (13, 0, 21), (20, 0, 21)):
            others = [page for page in pages if page[1] != number]
            self.asks(((), moment, end), others, ("read", number, moment, "wind", 4))
        looks = [("look", 3, 2, "eagle"), ("look", 4, 6, "bowl"), ("rule", 5, 4, "eagle", ())]
        self.asks(((), 0, 2), looks, ("look", 0, 0, "eagle"))
        self.asks(((), 3, 21), looks, ("look", 0, 3, "eagle"))
        self.asks(((), 3, 6), looks, ("look", 0, 3, "bowl"))
        self.asks((("eagle",), 0, 4), looks, ("rule", 0, 0, "eagle", NEVER))
        self.asks((("eagle",), 4, 4), looks, ("rule", 0, 4, "eagle", NEVER))
        self.asks((("eagle",), 4, 21), looks, ("rule", 6, 4, "eagle", NEVER))
        self.asks((("chair",), 4, 21), looks, ("rule", 6, 4, "chair", NEVER))

    def test_great_moments(self):
        hill = (HILL[0], "home", 1000000)
        self.assertEqual(reach(hill, (), rule(0, 1000000, "eagle")), (("eagle",), 1000000, 1000001))
        book = (rule(1, 1000000, "eagle"),)
        self.assertEqual(reach(hill, book, rule(2, 999999, "eagle")), (("eagle",), 999999, 1000000))


class Compared(unittest.TestCase):
    def one_more(self, chance, hill):
        page = some_page(chance, hill, chance.choice((200, 201, 999999, 250)))
        self.assertIs(is_page(hill, page), True)
        return page

    def cases(self, seed, many):
        """Tuples (chance, hill, pages, page), several pages to each book."""
        for chance, hill, pages in list(some_cases(seed, many)) + list(some_hanging_cases("hanging " + seed, many)):
            for _ in range(4):
                yield chance, hill, pages, self.one_more(chance, hill)

    def test_moment_by_moment(self):
        found = {"read": 0, "look": 0, "rule": 0, "nothing": 0}
        for chance, hill, pages, page in self.cases("touched", 120):
            mixed, kept = list(pages), copy.deepcopy(pages)
            chance.shuffle(mixed)
            book = book_of(mixed)
            told = touched(hill, book, page)
            self.assertEqual(told, plain_touching.touched(hill, pages, page))
            self.assertEqual(touched(hill, book_of(pages), page), told)
            self.assertEqual(reach(hill, book, page), plain_touching.reach(hill, pages, page))
            self.assertEqual(reach(hill, book_of(pages), page), plain_touching.reach(hill, pages, page))
            self.assertEqual((pages, book), (kept, book_of(kept)))
            found[page[0] if told else "nothing"] += 1
        self.assertGreater(min(found.values()), 12, found)

    def test_nothing_changes_beyond_the_reach(self):
        changed, other_rules = 0, 0
        for chance, hill, pages, page in self.cases("beyond", 60):
            book, more = book_of(pages), book_of(pages + [page])
            ways, a, b = reach(hill, book, page)
            self.assertTrue(all(w in ways and a <= low < high <= b for w, low, high in touched(hill, book, page)))
            for t in range(hill[2] + 1):
                for way in hill[0]:
                    one, other = why_shut(hill, book, way[0], t), why_shut(hill, more, way[0], t)
                    self.assertEqual(other, plain.why(hill, more, way[0], t))
                    if one != other:
                        self.assertTrue(way[0] in ways and a <= t < b, (way[0], t))
                        changed += 1
                        other_rules += one is not None and other is not None
        self.assertGreater(changed, 600)
        self.assertGreater(other_rules, 30)

    def test_as_open_ways_tells_it(self):
        for chance, hill, pages, page in self.cases("as open ways", 20):
            book, more = book_of(pages), book_of(pages + [page])
            rows = touched(hill, book, page)
            for t in range(hill[2] + 1):
                differ = set(open_ways(hill, book, t)) ^ set(open_ways(hill, more, t))
                self.assertEqual(differ, {w for w, a, b in rows if a <= t < b})

    def test_a_long_day_is_a_short_one_stretched(self):
        for chance, hill, pages, page in self.cases("long touch", 20):
            k, dark = 1000000 // hill[2], hill[2]
            long_hill, long_pages = stretched(hill, pages, k)
            asked = tuple((w, a * k, b * k if b <= dark else dark * k + 1)
                          for w, a, b in plain_touching.touched(hill, pages, page))
            long_page = stretched_page(page, k)
            self.assertEqual(touched(long_hill, book_of(long_pages), long_page), asked)
            ways, a, b = reach(hill, book_of(pages), page)
            self.assertEqual(reach(long_hill, book_of(long_pages), long_page),
                             (ways, a * k, b * k if b <= dark else dark * k + 1))

    def test_sixty_pages(self):
        chance = random.Random("sixty pages")
        for _ in range(4):
            hill = some_hill(chance, 12, 12)
            pages = some_pages(chance, hill, 59)
            for number in range(200, 206):
                page = some_page(chance, hill, number)
                self.assertEqual(touched(hill, book_of(pages), page), plain_touching.touched(hill, pages, page))
                self.assertEqual(reach(hill, book_of(pages), page), plain_touching.reach(hill, pages, page))


if __name__ == "__main__":
    unittest.main()
