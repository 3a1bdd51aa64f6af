"""Rules, pages and books (5), and that a book hangs on no order (3 b)."""

import copy
import itertools
import random
import unittest

from homeslopes.pages import book_of, is_book, is_page, is_rules
from tests import plain
from tests.making import deep, exchanged, odd_things, some_cases

HILL = (
    (("eagle", "slope", "top", "home", 9, 3), ("chair", "lift", "home", "top", 0, 5),
     ("lane", "path", "top", "hut", 7, 0)),
    "home", 100,
)
EACH_FORM = (
    ("hours", 8, 17), ("least", "snow", 30), ("most", "wind", -60), ("looked", 10), ("with", "chair"), ("never",),
)
SIXTY = 10 ** 60 - 1
READ = ("read", 3, 40, "wind", -5)
LOOK = ("look", 4, 50, "eagle")
RULE = ("rule", 5, 0, "lane", EACH_FORM)


class Rules(unittest.TestCase):
    def test_each_form(self):
        for rule in EACH_FORM:
            self.assertIs(is_rules(HILL, (rule,)), True, rule)

    def test_how_many(self):
        never = ("never",)
        for many in range(9):
            self.assertIs(is_rules(HILL, (never,) * many), many <= 6, many)
        self.assertIs(is_rules(HILL, EACH_FORM), True)
        self.assertIs(is_rules(HILL, EACH_FORM + (never,)), False)

    def test_hours(self):
        right = ((0, 1), (0, 1000001), (1000000, 1000001), (8, 17), (99, 100), (100, 101), (500, 600))
        wrong = ((-1, 5), (0, 0), (5, 5), (6, 5), (0, 1000002), (1000001, 1000001), (1000001, 1000002), (False, 5),
                 (0, True), ("1", 5), (1, "5"), (None, 5), (1, None), (-SIXTY, 5), (5, SIXTY))
        for a, b in right:
            self.assertIs(is_rules(HILL, (("hours", a, b),)), True, (a, b))
        for a, b in wrong:
            self.assertIs(is_rules(HILL, (("hours", a, b),)), False, (a, b))

    def test_least_and_most(self):
        for word in ("least", "most"):
            for n in (0, 1, -1, SIXTY, -SIXTY, 10 ** 59, -10 ** 59):
                self.assertIs(is_rules(HILL, ((word, "snow", n),)), True, n)
            for n in (True, False, None, "1", b"1", (), [1]):
                self.assertIs(is_rules(HILL, ((word, "snow", n),)), False, n)
            for post in ("eagle", "home", "a", "abcdefgh"):
                self.assertIs(is_rules(HILL, ((word, post, 1),)), True, post)
            for post in ("", "Snow", "abcdefghi", None, 1, b"snow", ("snow",)):
                self.assertIs(is_rules(HILL, ((word, post, 1),)), False, post)

    def test_looked(self):
        for n, asked in ((-1, False), (0, False), (1, True), (101, True), (1000000, True), (1000001, False),
                         (True, False), (False, False), ("1", False), (None, False), (SIXTY, False)):
            self.assertIs(is_rules(HILL, (("looked", n),)), asked, n)

    def test_with(self):
        for w in ("eagle", "chair", "lane"):
            self.assertIs(is_rules(HILL, (("with", w),)), True, w)
        for w in ("home", "top", "snow", "slope", "", "Eagle", None, 1, b"eagle", ("eagle",), ["eagle"]):
            self.assertIs(is_rules(HILL, (("with", w),)), False, w)

    def test_form(self):
        for rule in EACH_FORM:
            self.assertIs(is_rules(HILL, rule), False)
            self.assertIs(is_rules(HILL, [rule]), False)
            self.assertIs(is_rules(HILL, (list(rule),)), False)
            self.assertIs(is_rules(HILL, (rule[:-1],)), False)
            self.assertIs(is_rules(HILL, (rule + (1,),)), False)
        for word in ("Hours", "", "ever", None, b"never", 1, ("never",)):
            self.assertIs(is_rules(HILL, ((word,),)), False)
            self.assertIs(is_rules(HILL, ((word, 1, 2),)), False)

    def test_of_anything(self):
        for thing in exchanged(EACH_FORM[:5]):
            self.assertIs(is_rules(HILL, thing), bool(plain.rules(HILL, thing)))

    def test_forty_deep(self):
        for wrap in (lambda thing: (thing,), lambda thing: [thing], lambda thing: ("with", thing)):
            self.assertIs(is_rules(HILL, deep(wrap)), False)
            self.assertIs(is_rules(HILL, (deep(wrap, 39),)), False)


class Pages(unittest.TestCase):
    def test_each_kind(self):
        for page in (READ, LOOK, RULE, RULE[:4] + ((),), ("read", 0, 0, "eagle", 0)):
            self.assertIs(is_page(HILL, page), True, page)

    def test_looks_are_of_slopes_alone(self):
        for s in ("chair", "lane", "home", "wind", "", None, 1, b"eagle", ("eagle",)):
            self.assertIs(is_page(HILL, LOOK[:3] + (s,)), False, s)

    def test_rules_are_of_ways_alone(self):
        for w in ("eagle", "chair", "lane"):
            self.assertIs(is_page(HILL, RULE[:3] + (w, ())), True, w)
        for w in ("home", "wind", "", None, 1, b"eagle", ("eagle",)):
            self.assertIs(is_page(HILL, RULE[:3] + (w, ())), False, w)

    def test_rules_of_a_page(self):
        for rules in ([], None, ("never",), (("never",),) * 7, (("with", "home"),), (["never"],)):
            self.assertIs(is_page(HILL, RULE[:4] + (rules,)), False, rules)

    def test_values(self):
        for value in (0, -1, SIXTY, -SIXTY):
            self.assertIs(is_page(HILL, READ[:4] + (value,)), True, value)
        for value in (True, False, None, "1", b"1", ()):
            self.assertIs(is_page(HILL, READ[:4] + (value,)), False, value)

    def test_posts(self):
        for post, asked in (("a", True), ("abcdefgh", True), ("", False), ("abcdefghi", False), ("Wind", False),
                            (None, False), (b"wind", False)):
            self.assertIs(is_page(HILL, READ[:3] + (post, 1)), asked, post)

    def test_numbers(self):
        for page in (READ, LOOK, RULE):
            for number, asked in ((-1, False), (0, True), (999999, True), (1000000, False), (True, False),
                                  (False, False), ("1", False), (None, False), (SIXTY, False), (-SIXTY, False)):
                self.assertIs(is_page(HILL, page[:1] + (number,) + page[2:]), asked, number)

    def test_moments(self):
        for page in (READ, LOOK, RULE):
            for moment, asked in ((-1, False), (0, True), (100, True), (101, False), (True, False), (False, False),
                                  ("1", False), (None, False), (SIXTY, False), (-SIXTY, False)):
                self.assertIs(is_page(HILL, page[:2] + (moment,) + page[3:]), asked, moment)

    def test_form(self):
        for page in (READ, LOOK, RULE):
            self.assertIs(is_page(HILL, list(page)), False)
            self.assertIs(is_page(HILL, page[:-1]), False)
            self.assertIs(is_page(HILL, page + (1,)), False)
            self.assertIs(is_page(HILL, page[:1]), False)
            for word in ("Read", "", "looks", None, b"read", 1, ("read",)):
                self.assertIs(is_page(HILL, (word,) + page[1:]), False)
        self.assertIs(is_page(HILL, ("look",) + READ[1:]), False)
        self.assertIs(is_page(HILL, ("rule",) + LOOK[1:]), False)

    def test_of_anything(self):
        for page in (READ, LOOK, RULE[:4] + (EACH_FORM[:2],)):
            for thing in exchanged(page):
                self.assertIs(is_page(HILL, thing), bool(plain.page(HILL, thing)))


class Books(unittest.TestCase):
    def test_right_ones(self):
        for book in ((), (READ,), (RULE, READ, LOOK)):
            self.assertIs(is_book(HILL, book), True)

    def test_pages_exchanged(self):
        for book in itertools.permutations((RULE, READ, LOOK)):
            self.assertIs(is_book(HILL, book), book == (RULE, READ, LOOK))

    def test_one_number_twice(self):
        self.assertIs(is_book(HILL, (READ, READ)), False)
        self.assertIs(is_book(HILL, (READ, READ[:4] + (7,))), False)
        self.assertIs(is_book(HILL, (READ, ("look", 3, 41, "eagle"))), False)
        self.assertIs(is_book(HILL, (READ, LOOK, ("look", 3, 60, "eagle"))), False)

    def test_many_at_one_moment(self):
        book = tuple(("read", number, 40, "wind", -number) for number in range(60))
        self.assertIs(is_book(HILL, book), True)
        self.assertIs(is_book(HILL, book[:30] + book[31:29:-1] + book[32:]), False)
        self.assertIs(is_book(HILL, book[::-1]), False)

    def test_moments_stand_ahead_of_numbers(self):
        one, other = ("read", 9, 1, "wind", 0), ("read", 2, 5, "wind", 0)
        self.assertIs(is_book(HILL, (one, other)), True)
        self.assertIs(is_book(HILL, (other, one)), False)

    def test_form(self):
        self.assertIs(is_book(HILL, []), False)
        self.assertIs(is_book(HILL, [READ]), False)
        self.assertIs(is_book(HILL, READ), False)
        self.assertIs(is_book(HILL, (READ, list(LOOK))), False)
        self.assertIs(is_book(HILL, (READ, LOOK, None)), False)
        self.assertIs(is_book(HILL, ((READ, LOOK),)), False)

    def test_of_anything(self):
        for thing in exchanged((RULE[:4] + ((("never",),),), READ, LOOK)):
            self.assertIs(is_book(HILL, thing), bool(plain.book(HILL, thing)))
        for thing in odd_things():
            self.assertIs(is_book(HILL, thing), isinstance(thing, tuple) and len(thing) == 0)

    def test_made_ones(self):
        for chance, hill, pages in some_cases("books", 60):
            thing = tuple(pages)
            self.assertIs(is_book(hill, thing), bool(plain.book(hill, thing)))
            self.assertIs(is_book(hill, book_of(pages)), True)


class BookOf(unittest.TestCase):
    def test_of_none(self):
        self.assertEqual(book_of(()), ())
        self.assertEqual(book_of([]), ())
        self.assertIs(type(book_of([])), tuple)

    def test_in_any_order(self):
        pages = (RULE, READ, ("look", 2, 50, "eagle"), LOOK)
        for order in itertools.permutations(pages):
            self.assertEqual(book_of(order), pages)
            self.assertEqual(book_of(list(order)), pages)
            self.assertIs(type(book_of(list(order))), tuple)

    def test_by_moments_then_by_numbers(self):
        one, two, three = ("read", 9, 1, "wind", 0), ("read", 2, 5, "wind", 0), ("look", 10, 5, "eagle")
        self.assertEqual(book_of([three, two, one]), (one, two, three))

    def test_many_at_one_moment(self):
        pages = [("read", number, 7, "wind", number * 31 % 60 - 30) for number in range(60)]
        mixed = list(pages)
        random.Random("many").shuffle(mixed)
        self.assertEqual(book_of(mixed), tuple(pages))

    def test_kinds_hang_on_nothing(self):
        pages = [("rule", 1, 7, "eagle", ()), ("look", 2, 7, "eagle"), ("read", 3, 7, "wind", 1)]
        self.assertEqual(book_of(pages[::-1]), tuple(pages))

    def test_what_is_handed_in_stays(self):
        pages = [LOOK, READ, RULE]
        kept = copy.deepcopy(pages)
        told = book_of(pages)
        self.assertEqual(pages, kept)
        self.assertEqual(book_of(pages), told)

    def test_whatever_the_order(self):
        for chance, hill, pages in some_cases("orders", 40, 9, 30):
            mixed = list(pages)
            chance.shuffle(mixed)
            self.assertEqual(book_of(tuple(mixed)), book_of(pages))
            self.assertEqual(sorted(map(repr, book_of(mixed))), sorted(map(repr, pages)))


if __name__ == "__main__":
    unittest.main()
