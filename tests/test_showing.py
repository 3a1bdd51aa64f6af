"""Pages and books as texts (18; 2)."""

import copy
import unittest

from homeslopes.pages import book_of
from homeslopes.showing import book_text, page_text
from tests import plain_texts
from tests.making import some_cases

RULES = (("hours", 8, 17), ("least", "snow", 30), ("most", "wind", 60), ("looked", 10), ("with", "chair"), ("never",))
LONG = "eagle hours 8 17, least snow 30, most wind 60, looked 10, with chair, never"


class PageText(unittest.TestCase):
    def test_a_read(self):
        self.assertEqual(page_text(("read", 3, 40, "wind", -5)), "read 3 40 wind -5")
        self.assertEqual(page_text(("read", 0, 0, "a", 0)), "read 0 0 a 0")
        self.assertEqual(page_text(("read", 999999, 1000000, "abcdefgh", 7)), "read 999999 1000000 abcdefgh 7")

    def test_a_look(self):
        self.assertEqual(page_text(("look", 4, 50, "eagle")), "look 4 50 eagle")
        self.assertEqual(page_text(("look", 0, 1000000, "z")), "look 0 1000000 z")

    def test_a_rule(self):
        self.assertEqual(page_text(("rule", 5, 0, "eagle", RULES)), "rule 5 0 " + LONG)
        self.assertEqual(page_text(("rule", 5, 0, "eagle", RULES[::-1])),
                         "rule 5 0 eagle never, with chair, looked 10, most wind 60, least snow 30, hours 8 17")
        self.assertEqual(page_text(("rule", 999999, 7, "eagle", ())), "rule 999999 7 eagle -")

    def test_one_rule_of_each_kind(self):
        for one, text in zip(RULES, LONG[len("eagle "):].split(", ")):
            self.assertEqual(page_text(("rule", 1, 2, "chair", (one,))), "rule 1 2 chair " + text)
            self.assertEqual(page_text(("rule", 1, 2, "chair", (one, one))), f"rule 1 2 chair {text}, {text}")

    def test_bounds(self):
        rules = (("hours", 0, 1000001), ("looked", 1), ("looked", 1000000), ("least", "a", -1), ("most", "b", 0))
        self.assertEqual(page_text(("rule", 0, 0, "w", rules)),
                         "rule 0 0 w hours 0 1000001, looked 1, looked 1000000, least a -1, most b 0")

    def test_sixty_figures(self):
        for number in (10 ** 59, 10 ** 60 - 1, -10 ** 59, -(10 ** 60 - 1), 1, -1, 10, -10):
            self.assertEqual(page_text(("read", 1, 2, "wind", number)), "read 1 2 wind %d" % number)
            self.assertEqual(page_text(("rule", 1, 2, "w", (("most", "wind", number),))),
                             "rule 1 2 w most wind %d" % number)
        self.assertEqual(page_text(("read", 1, 2, "wind", -10 ** 59)), "read 1 2 wind -1" + "0" * 59)


class BookText(unittest.TestCase):
    def test_no_pages(self):
        self.assertEqual(book_text(()), "")

    def test_one_page(self):
        self.assertEqual(book_text((("look", 4, 50, "eagle"),)), "look 4 50 eagle")

    def test_a_line_for_each_page(self):
        pages = (("rule", 5, 0, "eagle", RULES), ("read", 3, 40, "wind", -5), ("look", 4, 50, "eagle"))
        self.assertEqual(book_text(pages), f"rule 5 0 {LONG}\nread 3 40 wind -5\nlook 4 50 eagle")

    def test_as_patterns_read_it(self):
        for chance, hill, pages in some_cases("texts", 80):
            book, kept = book_of(pages), copy.deepcopy(pages)
            text = book_text(book)
            self.assertEqual(plain_texts.book(hill, text), book)
            self.assertEqual(text.split("\n") if text else [], [page_text(page) for page in book])
            self.assertEqual(book_text(book), text)
            self.assertEqual(pages, kept)


if __name__ == "__main__":
    unittest.main()
