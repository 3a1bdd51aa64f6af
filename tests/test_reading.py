"""Pages and books from their texts (18; 3 j; 2)."""

import itertools
import random
import unittest

from homeslopes.errors import HillError, NoText
from homeslopes.pages import book_of
from homeslopes.reading import read_book, read_page
from homeslopes.showing import book_text, page_text
from tests import plain_texts
from tests.making import odd_things, some_cases, some_hill, some_pages

HILL = (
    (
        ("eagle", "slope", "top", "home", 9, 3), ("chair", "lift", "home", "top", 0, 5),
        ("bowl", "slope", "top", "top", 0, 0),
    ),
    "home",
    100,
)
LONG = "rule 5 0 eagle hours 8 17, least snow 30, most wind 60, looked 10, with chair, never"
TEXTS = ("read 3 40 wind -5", "look 4 50 eagle", LONG, "rule 5 0 eagle -", "read 0 100 a 0", "rule 10 7 chair never",
         "rule 6 0 bowl with eagle", "look 0 0 bowl", "read 100 20 eagle 101")
BOOK = "rule 5 0 eagle -\nread 3 40 wind -5\nlook 4 50 eagle\nlook 6 50 bowl"
SIGNS = " ,-+.0179aez_A\n\t\r\x00\u0663\u00b2\u00a0\uff11"
WORDS = ("", "-", "0", "-0", "00", "01", "1", "-1", "+1", "101", "100", "999999", "1000000", "1_0", "1.0", "eagle",
         "chair", "bowl", "top", "wind", "read", "look", "rule", "hours", "least", "most", "looked", "with", "never",
         "hut", "abcdefghi", "Eagle", "never,", ",", "9" * 60, "9" * 61, "-" + "9" * 60, "-" + "9" * 61, "0x1",
         "\u0663", "eagle\n")


class Refusing(unittest.TestCase):
    def as_patterns(self, deed, show, asked, hill, text):
        """What is asked, None where it is to be refused: the deed reads it from the text, and it is shown so again."""
        if asked is None:
            self.refuses(deed, hill, text)
        else:
            self.assertEqual((deed(hill, text), show(asked)), (asked, text))
        return asked

    def reads(self, text, hill=HILL):
        return self.as_patterns(read_page, page_text, plain_texts.page(hill, text), hill, text)

    def reads_book(self, text, hill=HILL):
        return self.as_patterns(read_book, book_text, plain_texts.book(hill, text), hill, text)

    def refuses(self, deed, hill, text):
        with self.assertRaises(HillError) as caught:
            deed(hill, text)
        self.assertIs(type(caught.exception), NoText, text)


class ReadPage(Refusing):
    def test_what_is_written(self):
        self.assertEqual(read_page(HILL, "read 3 40 wind -5"), ("read", 3, 40, "wind", -5))
        self.assertEqual(read_page(HILL, "look 4 50 eagle"), ("look", 4, 50, "eagle"))
        self.assertEqual(read_page(HILL, LONG), ("rule", 5, 0, "eagle", (
            ("hours", 8, 17), ("least", "snow", 30), ("most", "wind", 60), ("looked", 10), ("with", "chair"),
            ("never",),
        )))
        self.assertEqual(read_page(HILL, "rule 5 0 eagle -"), ("rule", 5, 0, "eagle", ()))
        self.assertEqual(read_page(HILL, "read 0 0 wind 0"), ("read", 0, 0, "wind", 0))
        self.assertEqual(read_page(HILL, "read 999999 100 wind 0"), ("read", 999999, 100, "wind", 0))

    def test_a_sign_put_in_left_out_or_exchanged(self):
        counted = {True: 0, False: 0}
        for text in TEXTS:
            self.assertIsNotNone(self.reads(text))
            for other in plain_texts.edits(text, SIGNS):
                counted[self.reads(other) is None] += 1
        self.assertGreater(min(counted.values()), 200, counted)

    def test_a_word_left_out_twice_or_another(self):
        counted = {True: 0, False: 0}
        for text in TEXTS:
            for other in plain_texts.word_edits(text, WORDS):
                counted[self.reads(other) is None] += 1
        self.assertGreater(min(counted.values()), 100, counted)

    def test_blanks_and_line_feeds_at_either_end(self):
        for text in TEXTS:
            for more in (" ", "\n", "\t", "\r", "  ", "\r\n", ",", ", ", " -", "- "):
                self.refuses(read_page, HILL, text + more)
                self.refuses(read_page, HILL, more + text)

    def test_numbers(self):
        for word, asked in (("0", 0), ("7", 7), ("-7", -7), ("10", 10), ("-10", -10), ("9" * 60, int("9" * 60)),
                            ("-" + "9" * 60, -int("9" * 60)), ("1" + "0" * 59, 10 ** 59)):
            self.assertEqual(read_page(HILL, f"read 3 40 wind {word}"), ("read", 3, 40, "wind", asked))
            self.assertEqual(read_page(HILL, f"rule 3 40 eagle least wind {word}"),
                             ("rule", 3, 40, "eagle", (("least", "wind", asked),)))
        for word in ("-0", "+1", "00", "01", "-01", "007", "--1", "-", "", "1-", "1 ", "9" * 61, "1" + "0" * 60,
                     "-" + "9" * 61, "9" * 5000, "-" + "1" * 5000, "1_0", "1.0", "1e1", "0x1", "\u0661", "\u00b2", "a",
                     "-a"):
            self.refuses(read_page, HILL, f"read 3 40 wind {word}")
            self.refuses(read_page, HILL, f"rule 3 40 eagle most wind {word}")

    def test_pages_that_are_none_of_the_hill(self):
        for text in ("look 4 50 chair", "look 4 50 top", "look 4 50 other", "read 1000000 0 wind 3", "read -1 0 wind 3",
                     "read 3 101 wind 3", "read 3 -1 wind 3", "rule 5 0 other -", "rule 5 0 eagle with other",
                     "rule 5 0 eagle hours 5 5", "rule 5 0 eagle hours 6 5", "rule 5 0 eagle hours 0 1000002",
                     "rule 5 0 eagle hours -1 5", "rule 5 0 eagle looked 0", "rule 5 0 eagle looked 1000001",
                     "rule 5 0 eagle never, never, never, never, never, never, never", "read 3 4 abcdefghi 5",
                     "rule 5 0 eagle never 1", "rule 5 0 eagle hours 5", "rule 5 0 eagle least wind", "rule 5 0 eagle"):
            self.assertIsNone(self.reads(text))
        for text in ("rule 5 0 eagle hours 0 1000001", "rule 5 0 eagle looked 1000000", "rule 5 100 eagle looked 1",
                     "rule 5 0 eagle never, never, never, never, never, never", "read 3 4 abcdefgh 5"):
            self.assertIsNotNone(self.reads(text))

    def test_rules_parted_otherwise(self):
        for rest in ("hours 8 17,never", "hours 8 17 ,never", "hours 8 17  never", "hours 8 17 never", "never,",
                     "never, ", ", never", "never,, never", "never, , never", "-, never", "never, -", "- -", "--", "",
                     "never,\nnever"):
            self.assertIsNone(self.reads("rule 5 0 eagle " + rest))

    def test_of_anything(self):
        for odd in odd_things():
            before = repr(odd)
            for thing in (odd, [odd], (odd,), {"read 3 40 wind -5": 1}, ("read", 3, 40, "wind", -5),
                          b"read 3 40 wind -5"):
                self.refuses(read_page, HILL, thing)
            self.assertEqual(repr(odd), before)
        self.refuses(read_page, HILL, ["read 3 40 wind -5"])


class ReadBook(Refusing):
    def test_no_pages(self):
        self.assertEqual(read_book(HILL, ""), ())
        for text in ("\n", " ", "-", "\n\n"):
            self.refuses(read_book, HILL, text)

    def test_what_is_written(self):
        self.assertEqual(read_book(HILL, BOOK), (
            ("rule", 5, 0, "eagle", ()), ("read", 3, 40, "wind", -5), ("look", 4, 50, "eagle"), ("look", 6, 50, "bowl"),
        ))
        for text in TEXTS:
            self.assertEqual(read_book(HILL, text), (read_page(HILL, text),))

    def test_a_sign_put_in_left_out_or_exchanged(self):
        counted = {True: 0, False: 0}
        for other in plain_texts.edits(BOOK, SIGNS):
            counted[self.reads_book(other) is None] += 1
        self.assertGreater(min(counted.values()), 60, counted)

    def test_a_word_or_a_line_left_out_twice_or_another(self):
        counted = {True: 0, False: 0}
        lines = TEXTS + ("", " ", "\n", "read 3 41 wind -5", "read 7 40 wind 1", "look 5 50 eagle", "read 3 40 wind")
        for other in itertools.chain(plain_texts.word_edits(BOOK, WORDS), plain_texts.word_edits(BOOK, lines, "\n")):
            counted[self.reads_book(other) is None] += 1
        self.assertGreater(min(counted.values()), 20, counted)

    def test_pages_in_another_order(self):
        lines = BOOK.split("\n")
        for mixed in itertools.permutations(lines):
            self.assertEqual(self.reads_book("\n".join(mixed)) is not None, list(mixed) == lines)

    def test_two_of_one_number(self):
        self.assertIsNone(self.reads_book("look 4 50 eagle\nlook 4 51 eagle"))
        self.assertIsNone(self.reads_book("look 4 50 eagle\nlook 4 50 eagle"))
        self.assertIsNone(self.reads_book("look 4 50 eagle\nlook 3 50 eagle"))
        self.assertIsNotNone(self.reads_book("look 4 50 eagle\nlook 5 50 eagle"))
        self.assertIsNotNone(self.reads_book("look 4 50 eagle\nlook 3 51 eagle"))

    def test_blanks_and_line_feeds_at_either_end_and_between(self):
        for more in (" ", "\n", "\t", "\r", "\r\n", ",", "\n\n"):
            self.refuses(read_book, HILL, BOOK + more)
            self.refuses(read_book, HILL, more + BOOK)
            self.refuses(read_book, HILL, BOOK.replace("\n", "\n" + more))
            self.refuses(read_book, HILL, BOOK.replace("\n", more + "\n"))
        for between in ("\r\n", "\r", " ", ", ", "\x0b", "\x0c", "\u2028"):
            self.refuses(read_book, HILL, BOOK.replace("\n", between))

    def test_of_anything(self):
        for odd in odd_things():
            before = repr(odd)
            if type(odd) is not str or odd:
                self.refuses(read_book, HILL, odd)
            self.refuses(read_book, HILL, (odd,))
            self.assertEqual(repr(odd), before)
        for thing in (BOOK.split("\n"), tuple(BOOK.split("\n")), read_book(HILL, BOOK), BOOK.encode(), {BOOK: BOOK}):
            self.refuses(read_book, HILL, thing)


class ReadAsWritten(Refusing):
    def test_each_page_and_book(self):
        for chance, hill, pages in some_cases("read as written", 120):
            book = book_of(pages)
            self.assertEqual(read_book(hill, book_text(book)), book)
            for page in pages:
                self.assertEqual(read_page(hill, page_text(page)), page)

    def test_sixty_pages_and_great_numbers(self):
        chance = random.Random("great texts")
        for dark in (60, 1000000):
            hill = some_hill(chance, dark, 12)
            pages = some_pages(chance, hill, 50)
            pages += [("read", 300 + at, dark, "wind", chance.choice((-1, 1)) * chance.randint(10 ** 58, 10 ** 60 - 1))
                      for at in range(10)]
            book = book_of(pages)
            self.assertEqual(read_book(hill, book_text(book)), book)

    def test_edits_of_books_by_chance(self):
        counted = {True: 0, False: 0}
        for chance, hill, pages in some_cases("edited", 40, 14, 4):
            text = book_text(book_of(pages))
            others = list(plain_texts.edits(text, " ,-01a\n")) + list(plain_texts.word_edits(text, ("0", "-", "eagle")))
            for other in chance.sample(others, min(60, len(others))):
                counted[self.reads_book(other, hill) is None] += 1
        self.assertGreater(min(counted.values()), 60, counted)


if __name__ == "__main__":
    unittest.main()
