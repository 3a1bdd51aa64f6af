"""What the book tells of a post or a way at a moment (6)."""

import copy
import unittest

from homeslopes.pages import book_of
from homeslopes.sights import looked_at, reading, rules_at
from tests import plain
from tests.making import NAMES, POSTS, some_cases

NEVER = (("never",),)
HOURS = (("hours", 1, 5),)


class Reading(unittest.TestCase):
    def test_without_a_page(self):
        self.assertIsNone(reading((), "wind", 0))
        self.assertIsNone(reading((("read", 0, 0, "snow", 7),), "wind", 5))

    def test_ahead_of_at_and_behind_a_page(self):
        book = (("read", 0, 5, "wind", -3), ("read", 1, 8, "wind", 0))
        told = [reading(book, "wind", t) for t in (0, 4, 5, 6, 7, 8, 9, 100)]
        self.assertEqual(told, [None, None, -3, -3, -3, 0, 0, 0])

    def test_at_the_first_and_the_last_moment(self):
        book = (("read", 0, 0, "wind", 1), ("read", 1, 100, "wind", 2))
        self.assertEqual([reading(book, "wind", t) for t in (0, 99, 100)], [1, 1, 2])

    def test_of_one_moment_the_greatest_number(self):
        pages = [("read", 11, 5, "wind", 30), ("read", 2, 5, "wind", 40), ("read", 9, 5, "wind", 50)]
        self.assertEqual(reading(book_of(pages), "wind", 5), 30)
        self.assertIsNone(reading(book_of(pages), "wind", 4))
        later = pages + [("read", 1, 6, "wind", 60)]
        self.assertEqual([reading(book_of(later), "wind", t) for t in (5, 6)], [30, 60])

    def test_a_post_called_like_a_way(self):
        book = book_of([
            ("read", 0, 1, "eagle", 7), ("look", 1, 2, "eagle"), ("rule", 2, 3, "eagle", NEVER),
            ("read", 3, 4, "wind", 8),
        ])
        self.assertEqual([reading(book, "eagle", t) for t in (0, 1, 2, 3, 4)], [None, 7, 7, 7, 7])
        self.assertEqual([looked_at(book, "eagle", t) for t in (0, 1, 2, 3, 4)], [None, None, 2, 2, 2])
        self.assertEqual([rules_at(book, "eagle", t) for t in (0, 1, 2, 3, 4)], [(), (), (), NEVER, NEVER])

    def test_great_values(self):
        great = 10 ** 60 - 1
        book = (("read", 0, 0, "wind", great), ("read", 1, 1, "wind", -great))
        self.assertEqual([reading(book, "wind", t) for t in (0, 1)], [great, -great])


class RulesAt(unittest.TestCase):
    def test_without_a_page(self):
        self.assertEqual(rules_at((), "eagle", 0), ())
        self.assertEqual(rules_at((("rule", 0, 0, "chair", NEVER),), "eagle", 5), ())

    def test_ahead_of_at_and_behind_a_page(self):
        book = (("rule", 0, 5, "eagle", NEVER), ("rule", 1, 8, "eagle", HOURS), ("rule", 2, 9, "eagle", ()))
        told = [rules_at(book, "eagle", t) for t in (4, 5, 6, 7, 8, 9, 10)]
        self.assertEqual(told, [(), NEVER, NEVER, NEVER, HOURS, (), ()])

    def test_of_one_moment_the_greatest_number(self):
        pages = [("rule", 11, 5, "eagle", HOURS), ("rule", 9, 5, "eagle", NEVER), ("rule", 100, 4, "eagle", ())]
        self.assertEqual([rules_at(book_of(pages), "eagle", t) for t in (3, 4, 5)], [(), (), HOURS])

    def test_others_in_between(self):
        book = book_of([
            ("rule", 0, 1, "eagle", HOURS), ("rule", 1, 2, "chair", NEVER), ("look", 2, 2, "eagle"),
            ("read", 3, 2, "eagle", 3),
        ])
        self.assertEqual(rules_at(book, "eagle", 2), HOURS)
        self.assertEqual(rules_at(book, "chair", 1), ())


class LookedAt(unittest.TestCase):
    def test_without_a_page(self):
        self.assertIsNone(looked_at((), "eagle", 0))
        self.assertIsNone(looked_at((("look", 0, 0, "hare"),), "eagle", 5))

    def test_ahead_of_at_and_behind_a_page(self):
        book = (("look", 7, 0, "eagle"), ("look", 3, 5, "eagle"), ("look", 1, 8, "eagle"))
        told = [looked_at(book, "eagle", t) for t in (0, 4, 5, 6, 7, 8, 9)]
        self.assertEqual(told, [0, 0, 5, 5, 5, 8, 8])

    def test_others_in_between(self):
        book = book_of([
            ("look", 0, 1, "eagle"), ("look", 1, 2, "hare"), ("rule", 2, 3, "eagle", NEVER), ("read", 3, 3, "eagle", 3),
        ])
        self.assertEqual(looked_at(book, "eagle", 9), 1)


class Compared(unittest.TestCase):
    def test_made_books_in_any_order(self):
        for chance, hill, pages in some_cases("sights", 60, 8, 30):
            book, kept = book_of(pages), copy.deepcopy(pages)
            for t in range(hill[2] + 1):
                for post in POSTS:
                    read = plain.last(pages, "read", post, t)
                    self.assertEqual(reading(book, post, t), read and read[4])
                for w in NAMES[:4]:
                    look = plain.last(pages, "look", w, t)
                    self.assertEqual(looked_at(book, w, t), None if look is None else look[2])
                    self.assertEqual(rules_at(book, w, t), plain.rules_of(pages, w, t))
            self.assertEqual(pages, kept)


if __name__ == "__main__":
    unittest.main()
