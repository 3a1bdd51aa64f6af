"""The house: pages told and struck, askings kept, answers told again (17; 3 b, e, f, i; 2)."""

import copy
import itertools
import random
import unittest

from homeslopes.errors import HillError, NoGoer, NoHill, NoMoment, NoNumber, NoPage, NoPlace, NoWay, Twice
from homeslopes.games import safe
from homeslopes.hills import places
from homeslopes.house import House
from homeslopes.pages import book_of
from homeslopes.spanning import outlook
from tests import plain
from tests.making import deep, exchanged, hours, odd_things, some_busy_cases, some_cases, some_hanging_cases

FAST = ("fast", "slope", "top", "home", 3, 2)
SLOW = ("slow", "path", "top", "home", 9, 0)
UP = ("up", "lift", "home", "top", 0, 4)
HILL = ((FAST, SLOW, UP), "home", 30)
SHUT = ("rule", 1, 0, "fast", (("never",),))
READ = ("read", 2, 4, "wind", -5)
LOOK = ("look", 3, 4, "fast")
PAGES = (SHUT, READ, LOOK)


class Refusing(unittest.TestCase):
    def refuses(self, error, deed, *things):
        """The deed is refused with this very error."""
        with self.assertRaises(HillError) as caught:
            deed(*things)
        self.assertIs(type(caught.exception), error, things)
        self.assertIsInstance(caught.exception, ValueError)

    def told(self, pages, hill=HILL):
        house = House(hill)
        for page in pages:
            self.assertIsNone(house.tell(page))
        return house


class Hills(Refusing):
    def test_no_hill(self):
        small = ((FAST,), "home", 30)
        for thing in exchanged(small):
            before = repr(thing)
            if plain.hill(thing):
                self.assertEqual(House(thing).book(), ())
            else:
                self.refuses(NoHill, House, thing)
            self.assertEqual(repr(thing), before)

    def test_two_ways_of_one_name(self):
        self.refuses(NoHill, House, ((FAST, FAST), "home", 30))

    def test_a_new_house_is_empty(self):
        house = House(HILL)
        self.assertEqual((house.book(), house.lets(), house.again()), ((), (), ()))

    def test_two_houses_apart(self):
        one, other = House(HILL), House(HILL)
        one.tell(SHUT)
        self.assertEqual((one.book(), other.book()), ((SHUT,), ()))
        other.tell(("read", 1, 0, "wind", 3))
        one.let("walker", "top", 20, 0)
        self.assertEqual(other.lets(), ())
        other.let("walker", "top", 27, 0)
        self.assertEqual((one.lets()[0][2], other.lets()[0][2]), (20, 27))
        one.strike(1)
        self.assertEqual((one.book(), len(other.book())), ((), 1))
        self.assertEqual(one.let("walker", "top", 27, 0), True)


class Telling(Refusing):
    def test_tell_gives_none(self):
        house = self.told(PAGES)
        self.assertEqual(house.book(), (SHUT, READ, LOOK))

    def test_no_page_of_anything(self):
        for page in (READ, LOOK, ("rule", 4, 4, "fast", (("hours", 1, 3), ("with", "up")))):
            for thing in exchanged(page):
                house, before = self.told([SHUT]), repr(thing)
                if not plain.page(HILL, thing):
                    self.refuses(NoPage, house.tell, thing)
                    self.assertEqual(house.book(), (SHUT,))
                elif thing[1] == 1:
                    self.refuses(Twice, house.tell, thing)
                    self.assertEqual(house.book(), (SHUT,))
                else:
                    self.assertIsNone(house.tell(thing))
                    self.assertEqual(house.book(), book_of([SHUT, thing]))
                self.assertEqual(repr(thing), before)

    def test_no_page_of_the_hill(self):
        house = House(HILL)
        for thing in (("look", 0, 0, "slow"), ("look", 0, 0, "up"), ("look", 0, 0, "other"), ("read", 0, 31, "wind", 3),
                      ("read", 0, -1, "wind", 3), ("rule", 0, 0, "other", ()), ("rule", 0, 0, "up", (("with", "x"),)),
                      ("read", 1000000, 0, "wind", 3), ("read", -1, 0, "wind", 3), ("rule", 0, 0, "up", [])):
            self.refuses(NoPage, house.tell, thing)
        self.assertEqual(house.book(), ())

    def test_twice(self):
        house = self.told(PAGES)
        for page in PAGES:
            self.refuses(Twice, house.tell, page)
            self.refuses(Twice, house.tell, ("read", page[1], 9, "snow", 9))
            self.refuses(Twice, house.tell, ("rule", page[1], 0, "up", ()))
        self.assertEqual(house.book(), (SHUT, READ, LOOK))

    def test_no_page_ahead_of_twice(self):
        house = self.told(PAGES)
        for thing in (("read", 1, 31, "wind", 3), ("look", 1, 0, "up"), ("read", 1, 0, "wind", True), list(SHUT),
                      ("rule", 1, 0, "fast", (("never", 1),)), ("read", True, 0, "wind", 3), ("look", 1, 0)):
            self.refuses(NoPage, house.tell, thing)
        self.assertEqual(house.book(), (SHUT, READ, LOOK))

    def test_bounds_of_numbers(self):
        house = self.told([("read", 0, 0, "wind", 0), ("read", 999999, 30, "wind", 10 ** 59)])
        self.assertEqual(house.book(), (("read", 0, 0, "wind", 0), ("read", 999999, 30, "wind", 10 ** 59)))
        house.strike(999999)
        house.strike(0)
        self.assertEqual(house.book(), ())


class Striking(Refusing):
    def test_as_if_it_had_never_come(self):
        house = self.told(PAGES)
        self.assertIsNone(house.strike(2))
        self.assertEqual(house.book(), (SHUT, LOOK))
        self.refuses(NoNumber, house.strike, 2)
        house.strike(1)
        house.strike(3)
        self.assertEqual(house.book(), ())

    def test_the_number_may_be_told_again(self):
        house = self.told(PAGES)
        house.strike(1)
        other = ("read", 1, 20, "snow", 7)
        self.assertIsNone(house.tell(other))
        self.assertEqual(house.book(), (READ, LOOK, other))
        house.strike(1)
        house.tell(SHUT)
        self.assertEqual(house.book(), (SHUT, READ, LOOK))

    def test_no_number_of_anything(self):
        house = self.told(PAGES)
        others = [0, 4, -1, 1000000, 10 ** 59, True, False, None, "1", b"1", (1,), [1], {1: 1}, SHUT, (), ""]
        for thing in others + [odd for odd in odd_things() if type(odd) is not int or odd not in (1, 2)]:
            before = repr(thing)
            self.refuses(NoNumber, house.strike, thing)
            self.assertEqual(repr(thing), before)
        self.assertEqual(house.book(), (SHUT, READ, LOOK))

    def test_true_is_no_1_and_false_no_0(self):
        house = self.told([SHUT, ("read", 0, 0, "wind", 3)])
        self.refuses(NoNumber, house.strike, True)
        self.refuses(NoNumber, house.strike, False)
        self.assertEqual(len(house.book()), 2)

    def test_an_empty_house(self):
        for number in (0, 1, 2):
            self.refuses(NoNumber, House(HILL).strike, number)


class Books(Refusing):
    def test_whatever_the_order(self):
        for mixed in itertools.permutations(PAGES + (("read", 0, 4, "wind", 1),)):
            self.assertEqual(self.told(mixed).book(), (SHUT, ("read", 0, 4, "wind", 1), READ, LOOK))

    def test_whatever_was_struck(self):
        for chance, hill, pages in some_cases("struck", 60):
            some = set(chance.sample(range(len(pages)), len(pages) // 2))
            left = [page for at, page in enumerate(pages) if at not in some]
            house, mixed = House(hill), list(pages)
            chance.shuffle(mixed)
            struck = [page for page in mixed if page not in left]
            for page in mixed:
                house.tell(page)
                if page in struck and chance.random() < 0.5:
                    house.strike(page[1])
                    struck.remove(page)
            for page in struck:
                house.strike(page[1])
            self.assertEqual(house.book(), book_of(left))
            self.assertEqual(house.book(), self.told(left, hill).book())

    def test_a_told_book_stays_as_it_was(self):
        house = self.told(PAGES)
        book = house.book()
        house.strike(2)
        self.assertEqual(book, (SHUT, READ, LOOK))
        self.assertIs(type(book), tuple)


class Letting(Refusing):
    def test_truths(self):
        house = House(HILL)
        self.assertIs(house.let("walker", "top", 27, 0), True)
        self.assertIs(house.let("walker", "top", 28, 0), False)
        self.assertIs(house.let("walker", "top", 21, 1), True)
        self.assertIs(house.let("walker", "top", 22, 1), False)
        self.assertIs(house.let("walker", "top", 0, 2), False)
        self.assertIs(house.let("rider", "top", 28, 0), True)
        self.assertIs(house.let("rider", "top", 0, 1), False)
        self.assertIs(house.let("walker", "home", 30, 2), True)
        self.assertEqual(house.lets(), (
            ("walker", "top", 27, 0, True), ("walker", "top", 28, 0, False), ("walker", "top", 21, 1, True),
            ("walker", "top", 22, 1, False), ("walker", "top", 0, 2, False), ("rider", "top", 28, 0, True),
            ("rider", "top", 0, 1, False), ("walker", "home", 30, 2, True),
        ))

    def test_refused_in_this_order(self):
        house = self.told([SHUT])
        right = ("walker", "top", 3, 1)
        wrong = (
            [(NoGoer, odd) for odd in ("skier", "", "Walker", "rider ", 0, 1, True, b"rider", ("rider",), ["rider"])],
            [(NoPlace, odd) for odd in ("hut", "fast", "", "HOME", None, 0, b"home", ("home",), ["home"], {"home": 1})],
            [(NoMoment, odd) for odd in (-1, 31, True, False, None, "3", b"3", (3,), [3], 10 ** 59)],
            [(NoNumber, odd) for odd in (-1, 3, True, False, None, "1", b"1", (1,), [1], -10 ** 59)],
        )
        for many in range(1, 5):
            for at in itertools.combinations(range(4), many):
                for pick in range(10):
                    things = list(right)
                    for place in at:
                        things[place] = wrong[place][(pick + 3 * place) % 10][1]
                    self.refuses(wrong[at[0]][0][0], house.let, *things)
        for place in range(4):
            for error, odd in wrong[place]:
                self.refuses(error, house.let, *right[:place], odd, *right[place + 1:])
        self.assertEqual((house.lets(), house.again(), house.book()), ((), (), (SHUT,)))

    def test_of_anything(self):
        house = House(HILL)
        for odd in odd_things() + [deep(lambda thing: [thing]), {"walker": 1}, "rider", "walker", "top"]:
            number, many = type(odd) is int, len(house.lets())
            if not (type(odd) is str and odd in ("walker", "rider")):
                self.refuses(NoGoer, house.let, odd, "top", 3, 1)
            if not (type(odd) is str and odd in ("home", "top")):
                self.refuses(NoPlace, house.let, "rider", odd, 3, 1)
            if not (number and 0 <= odd <= 30):
                self.refuses(NoMoment, house.let, "rider", "top", odd, 1)
            if not (number and 0 <= odd <= 2):
                self.refuses(NoNumber, house.let, "rider", "top", 3, odd)
            self.refuses(NoGoer, house.let, (odd,), odd, odd, odd)
            self.assertEqual(len(house.lets()), many)

    def test_every_right_asking(self):
        house = House(HILL)
        asked = list(itertools.product(("walker", "rider"), ("home", "top"), (0, 15, 30), (0, 1, 2)))
        for number, things in enumerate(asked):
            answer = house.let(*things)
            self.assertEqual(house.lets()[number], things + (answer,))
        self.assertEqual(len(house.lets()), len(asked))

    def test_a_place_that_only_home_is(self):
        house = House(((SLOW[:3] + ("hut", 1, 1),), "home", 5))
        self.assertIs(house.let("walker", "home", 5, 2), True)
        self.assertIs(house.let("walker", "hut", 0, 0), False)
        self.refuses(NoPlace, house.let, "walker", "far", 0, 0)

    def test_as_safe_tells_it_moment_by_moment(self):
        counted = {True: 0, False: 0}
        for chance, hill, pages in list(some_busy_cases("lets", 60)) + list(some_hanging_cases("hanging lets", 30, 7)):
            mixed = list(pages)
            chance.shuffle(mixed)
            house, days = self.told(mixed, hill), plain.day(hill, pages)
            for goer, left in itertools.product(("walker", "rider"), (0, 1, 2)):
                game, rows = plain.Game(hill, days, goer), dict(safe(hill, book_of(pages), goer, left))
                for place in places(hill):
                    for t in {0, chance.randint(0, hill[2]), hill[2]}:
                        answer = house.let(goer, place, t, left)
                        self.assertIs(answer, game.wins(place, t, (), left))
                        self.assertIs(answer, t <= dict(rows[()]).get(place, -1))
                        counted[answer] += place != "home"
            self.assertEqual(house.again(), ())
        self.assertGreater(min(counted.values()), 150, counted)


class Again(Refusing):
    def test_another_answer(self):
        house = House(HILL)
        house.let("walker", "top", 25, 0)
        house.let("walker", "home", 25, 0)
        house.let("walker", "top", 21, 0)
        house.let("walker", "top", 29, 0)
        self.assertEqual(house.again(), ())
        house.tell(SHUT)
        self.assertEqual(house.again(), ((0, False),))
        self.assertEqual([row[4] for row in house.lets()], [True, True, True, False])
        house.tell(("rule", 2, 0, "slow", (("never",),)))
        self.assertEqual(house.again(), ((0, False), (2, False)))
        house.strike(1)
        self.assertEqual(house.again(), ())
        house.tell(("rule", 1, 22, "fast", (("never",),)))
        self.assertEqual(house.again(), ((0, False),))
        self.assertEqual(house.again(), ((0, False),))

    def test_an_answer_no_that_would_be_yes(self):
        house = self.told([SHUT])
        self.assertIs(house.let("rider", "top", 20, 0), False)
        house.strike(1)
        self.assertEqual(house.again(), ((0, True),))
        self.assertIs(house.let("rider", "top", 20, 0), True)
        house.tell(SHUT)
        self.assertEqual(house.again(), ((1, False),))
        self.assertEqual(house.lets(), (("rider", "top", 20, 0, False), ("rider", "top", 20, 0, True)))

    def test_what_was_told_stays_as_it_was(self):
        house = House(HILL)
        house.let("walker", "top", 25, 0)
        lets, again = house.lets(), house.again()
        house.tell(SHUT)
        house.let("rider", "top", 25, 0)
        self.assertEqual((lets, again), ((("walker", "top", 25, 0, True),), ()))

    def test_what_is_refused_changes_nothing(self):
        house = House(HILL)
        house.let("walker", "top", 25, 0)
        house.tell(SHUT)
        kept = (house.book(), house.lets(), house.again())
        self.refuses(Twice, house.tell, ("rule", 1, 0, "fast", ()))
        self.refuses(NoPage, house.tell, ("rule", 2, 0, "other", ()))
        self.refuses(NoNumber, house.strike, 2)
        self.refuses(NoMoment, house.let, "walker", "top", 31, 0)
        self.refuses(NoWay, house.outlook, "other", 0)
        self.assertEqual((house.book(), house.lets(), house.again()), kept)

    def deeds(self, chance, hill, pages):
        """Pages told and struck and told again, askings in between, by chance."""
        house, standing, asked, by_number = House(hill), {}, [], {page[1]: page for page in pages}
        for _ in range(40):
            what = chance.choice(("tell", "tell", "strike", "let", "let"))
            number = chance.choice(sorted(by_number))
            if what == "tell" and number not in standing:
                house.tell(by_number[number])
                standing[number] = by_number[number]
            if what == "strike" and number in standing:
                house.strike(number)
                del standing[number]
            if what == "let":
                things = (chance.choice(("walker", "rider")), chance.choice(places(hill)),
                          chance.randint(0, hill[2]), chance.choice((0, 0, 1, 2)))
                asked.append(things + (house.let(*things),))
            yield house, list(standing.values()), asked

    def test_compared_behind_strikes_and_pages_told_again(self):
        counted = 0
        for chance, hill, pages in some_busy_cases("again", 40, 8, 5, 4):
            games = {}
            pages += [("rule", 300 + at, 0, way[0], (("never",),)) for at, way in enumerate(hill[0])]
            for house, standing, asked in self.deeds(chance, hill, pages):
                key = tuple(sorted(standing))
                if key not in games:
                    days = plain.day(hill, standing)
                    games[key] = {goer: plain.Game(hill, days, goer) for goer in ("walker", "rider")}
                now = [games[key][goer].wins(place, t, (), left) for goer, place, t, left, answer in asked]
                others = [(at, truth) for at, truth in enumerate(now) if truth != asked[at][4]]
                self.assertEqual(house.lets(), tuple(asked))
                self.assertEqual(house.again(), tuple(others))
                self.assertEqual(house.again(), tuple(others))
                self.assertEqual(house.book(), book_of(standing))
                counted += len(others)
        self.assertGreater(counted, 500)


class Outlook(Refusing):
    def test_as_the_function_tells_it(self):
        for chance, hill, pages in some_cases("outlooks", 40):
            mixed = list(pages)
            chance.shuffle(mixed)
            house = self.told(mixed, hill)
            days = plain.day(hill, pages)
            for way in hill[0]:
                for t in range(hill[2] + 1):
                    told = house.outlook(way[0], t)
                    self.assertEqual(told, plain.outlook(hill, pages, days, way[0], t))
                    self.assertEqual(told, outlook(hill, book_of(pages), way[0], t))

    def test_by_the_book_as_it_is(self):
        house = House(HILL)
        self.assertEqual(house.outlook("fast", 5), ("open", None, None))
        house.tell(hours("fast", 3, 9))
        self.assertEqual(house.outlook("fast", 5), ("open", 9, 0))
        self.assertEqual(house.outlook("fast", 0), ("shut", 0, 3))
        self.assertEqual(house.outlook("fast", 30), ("shut", 0, None))
        house.strike(0)
        self.assertEqual(house.outlook("fast", 30), ("open", None, None))

    def test_no_way_ahead_of_no_moment(self):
        house = self.told([SHUT])
        for odd in odd_things():
            self.refuses(NoWay, house.outlook, odd, 3)
            self.refuses(NoWay, house.outlook, odd, odd)
            self.refuses(NoWay, house.outlook, odd, 31)
            self.refuses(NoWay, house.outlook, (odd, "fast"), None)
            if not (type(odd) is int and 0 <= odd <= 30):
                self.refuses(NoMoment, house.outlook, "fast", odd)
        for w in ("top", "home", "FAST", "fast ", ("fast",), ["fast"], b"fast", {"fast": 1}):
            self.refuses(NoWay, house.outlook, w, 3)
            self.refuses(NoWay, house.outlook, w, -1)
        for t in (-1, 31, True, False, "3", None, [3], (3,)):
            self.refuses(NoMoment, house.outlook, "fast", t)
        self.assertEqual((house.lets(), house.book()), ((), (SHUT,)))


class SameWhateverTheOrder(Refusing):
    def answers(self, house, hill):
        asked = [house.let(goer, place, t, left) for goer in ("walker", "rider") for place in places(hill)
                 for t in range(0, hill[2] + 1, 2) for left in (0, 1, 2)]
        return asked, [house.outlook(way[0], t) for way in hill[0] for t in range(hill[2] + 1)], house.book()

    def test_pages_in_any_order_struck_and_told_again(self):
        for chance, hill, pages in list(some_busy_cases("orders", 25)) + list(some_hanging_cases("hung", 10, 6)):
            kept = copy.deepcopy(pages)
            asked = self.answers(self.told(pages, hill), hill)
            for _ in range(2):
                mixed = list(pages)
                chance.shuffle(mixed)
                house = self.told(mixed, hill)
                for page in chance.sample(pages, len(pages) // 2):
                    house.strike(page[1])
                    house.tell(page)
                self.assertEqual(self.answers(house, hill), asked)
                self.assertEqual(self.answers(house, hill), asked)
                self.assertEqual(house.again(), ())
            self.assertEqual(pages, kept)

    def test_a_long_day_of_sixty_pages(self):
        chance = random.Random("a long day")
        ways = tuple((name, "slope", "top", "home", 1 + at, 2) for at, name in enumerate("abcdefghijkl"))
        hill = (ways, "home", 1000000)
        names = [chance.choice("abcdefghijkl") for _ in range(60)]
        pages = [("rule", at, at * 1000, name, (("hours", at, 900000 + at),)) for at, name in enumerate(names)]
        one, other = self.told(pages, hill), self.told(pages[::-1], hill)
        for t in (0, 30000, 899990, 900060, 999999, 1000000):
            for left in (0, 1, 2):
                self.assertIs(one.let("walker", "top", t, left), other.let("walker", "top", t, left))
        self.assertEqual(one.lets(), other.lets())


if __name__ == "__main__":
    unittest.main()
