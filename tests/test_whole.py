"""The promise over the whole program (3, a to j): small hills gone through moment by moment, from pages to answers."""

import copy
import itertools
import unittest

from homeslopes.arriving import arrivals, walk
from homeslopes.barlooks import shows_bar
from homeslopes.crowdlooks import shows_crowd
from homeslopes.crowds import crowd
from homeslopes.desk import Desk
from homeslopes.games import safe
from homeslopes.hills import places
from homeslopes.homing import bar, latest
from homeslopes.house import House
from homeslopes.opening import open_ways, why_shut
from homeslopes.pages import book_of, is_book, is_page
from homeslopes.patrollooks import shows_fewest
from homeslopes.patrols import fewest
from homeslopes.playing import shutting, step
from homeslopes.reading import read_book, read_page
from homeslopes.showing import book_text, page_text
from homeslopes.touching import reach, touched
from homeslopes.walklooks import shows_walk
from tests import plain, plain_rounds
from tests.making import some_busy_cases, some_cases, some_hanging_cases, some_looks, some_page, some_starts
from tests.plain_desk import PlainDesk, shown, told_alike

GOERS = ("walker", "rider")


def small_cases(seed, many):
    """Small hills of every sort, each with its pages in an order by chance."""
    cases = itertools.chain(
        some_busy_cases(seed, many, 8, 6, 8), some_hanging_cases("hanging " + seed, many, 7),
        some_cases("far " + seed, many // 2, 9, 12),
    )
    for chance, hill, pages in cases:
        chance.shuffle(pages)
        yield chance, hill, pages


def asked_lines(hill):
    """Every line open, way, let and home of the hill."""
    lines = []
    for t in range(hill[2] + 1):
        lines.append(f"open {t}")
        lines += [f"way {way[0]} {t}" for way in hill[0]]
        for goer, place in itertools.product(GOERS, places(hill)):
            lines.append(f"home {goer} {place} {t}")
            lines += [f"let {goer} {place} {t} {left}" for left in (0, 1, 2)]
    return lines


class AtTheDesk(unittest.TestCase):
    def test_every_line_at_every_moment(self):
        counted = {}
        for chance, hill, pages in small_cases("whole", 14):
            desk, asked = Desk(hill), PlainDesk(hill)
            for page in pages:
                told_alike(self, desk, asked, "tell " + page_text(page))
            for line in asked_lines(hill):
                counted.setdefault(line.split(" ")[0], set()).add(told_alike(self, desk, asked, line))
            told_alike(self, desk, asked, "again")
            for page in pages[::2]:
                told_alike(self, desk, asked, f"strike {page[1]}")
                told_alike(self, desk, asked, "again")
            for line in ("book", f"open {hill[2]}"):
                told_alike(self, desk, asked, line)
        self.assertEqual(counted.pop("let"), {"yes", "no"})
        self.assertGreater(min(map(len, counted.values())), 15)

    def test_let_up_with_none_let_in_is_not_barred(self):
        for chance, hill, pages in small_cases("barred", 10):
            desk = Desk(hill)
            for page in pages:
                desk.say("tell " + page_text(page))
            for goer, place, t in itertools.product(GOERS, places(hill), range(hill[2] + 1)):
                barred = desk.say(f"home {goer} {place} {t}").startswith("barred by ")
                self.assertEqual(desk.say(f"let {goer} {place} {t} 0"), "no" if barred else "yes")

    def test_whatever_the_order_and_what_was_told_and_struck(self):
        for chance, hill, pages in small_cases("any order", 8):
            one, other = Desk(hill), Desk(hill)
            struck = [some_page(chance, hill, 700 + at) for at in range(3)]
            mixed = pages + struck
            for page in pages:
                one.say("tell " + page_text(page))
            chance.shuffle(mixed)
            for page in mixed:
                other.say("tell " + page_text(page))
            for page in chance.sample(pages, len(pages) // 2):
                other.say(f"strike {page[1]}")
                other.say("tell " + page_text(page))
            for page in struck:
                other.say(f"strike {page[1]}")
            for line in asked_lines(hill) + ["book", "again"]:
                told = one.say(line)
                self.assertEqual(other.say(line), told, line)
                if chance.random() < 0.2:
                    self.assertEqual(one.say(line) if not line.startswith("let") else told, told, line)
            self.assertEqual(one.say("again"), "-")

    def test_what_is_told_of_a_page_is_what_changes(self):
        for chance, hill, pages in small_cases("changes", 14):
            desk = Desk(hill)
            opened = [desk.say(f"open {t}") for t in range(hill[2] + 1)]
            lines = ["tell " + page_text(page) for page in pages] + [f"strike {page[1]}" for page in pages[::2]]
            for line in lines:
                text = desk.say(line)
                rows = [] if text == "-" else [row.split(" ") for row in text.split(", ")]
                changed = [{w for w, a, b in rows if int(a) <= t < int(b)} for t in range(hill[2] + 1)]
                now = [desk.say(f"open {t}") for t in range(hill[2] + 1)]
                for before, behind, names in zip(opened, now, changed):
                    self.assertEqual(set(before.split(" ")) - {"-"} ^ set(behind.split(" ")) - {"-"}, names)
                opened = now


class Promised(unittest.TestCase):
    def test_a_open_just_where_all_rules_hold(self):
        for chance, hill, pages in small_cases("a", 14):
            house, days = House(hill), plain.day(hill, pages)
            for page in pages:
                house.tell(page)
            for way, t in itertools.product(hill[0], range(hill[2] + 1)):
                self.assertEqual(open_ways(hill, house.book(), t), days[t])
                self.assertEqual(house.outlook(way[0], t), plain.outlook(hill, pages, days, way[0], t))
                self.assertEqual(why_shut(hill, house.book(), way[0], t), plain.why(hill, pages, way[0], t))

    def test_c_a_walk_or_a_bar_and_never_both(self):
        counted = {True: 0, False: 0}
        for chance, hill, pages in small_cases("c", 10):
            book, days = book_of(pages), plain.day(hill, pages)
            for goer, place, t in itertools.product(GOERS, places(hill), range(hill[2] + 1)):
                came = arrivals(hill, book, goer, place, t)
                self.assertEqual(came, plain.arrivals(hill, days, goer, place, t))
                for to in places(hill):
                    self.look_at_walk(hill, book, goer, place, t, to, dict(came).get(to))
                told = bar(hill, book, goer, place, t)
                self.assertIs(told is None, hill[1] in dict(came))
                # No bar that has each place from its first moment on keeps in whoever comes home.
                others = tuple((spot, m) for spot, m in came if spot != hill[1])
                self.assertIs(shows_bar(hill, book, goer, place, t, told or others), told is not None)
                counted[told is None] += 1
        self.assertGreater(min(counted.values()), 100, counted)

    def look_at_walk(self, hill, book, goer, place, t, to, m):
        steps = walk(hill, book, goer, place, t, to)
        self.assertIs(steps is None, m is None)
        if m is not None:
            self.assertIs(shows_walk(hill, book, goer, place, t, to, m, steps), True)
            self.assertIs(shows_walk(hill, book, goer, place, t, to, m - 1, steps), False)

    def test_d_home_just_where_no_later_than_the_latest(self):
        for chance, hill, pages in small_cases("d", 14):
            book = book_of(pages)
            for goer in GOERS:
                last = dict(latest(hill, book, goer))
                for place, t in itertools.product(places(hill), range(hill[2] + 1)):
                    comes = hill[1] in dict(arrivals(hill, book, goer, place, t))
                    self.assertIs(comes, t <= last.get(place, -1))

    def test_f_with_none_let_in_it_is_d(self):
        for chance, hill, pages in small_cases("f", 14):
            for goer in GOERS:
                rows = [dict(dict(safe(hill, book_of(pages), goer, left))[()]) for left in (0, 1, 2)]
                self.assertEqual(tuple(sorted(rows[0].items())), latest(hill, book_of(pages), goer))
                for more, fewer in zip(rows[1:], rows):
                    self.assertTrue(all(m <= fewer.get(place, -1) for place, m in more.items()))

    def test_g_no_more_and_no_fewer_than_told(self):
        for chance, hill, pages in some_busy_cases("g", 40, 7, 5, 5):
            book, days = book_of(pages), plain.day(hill, pages)
            starts, looks = some_starts(chance, hill, 4, places(hill)), some_looks(chance, hill, 5)
            told = crowd(hill, book, "walker", starts)
            self.assertIs(shows_crowd(hill, book, "walker", starts, told), True)
            home = len([steps for steps in told[0] if steps is not None])
            self.assertEqual(home, plain.most_home(hill, days, "walker", starts))
            rounds = fewest(hill, looks)
            self.assertIs(shows_fewest(hill, looks, rounds), True)
            self.assertEqual(len(rounds[0]), plain_rounds.fewest_rounds(hill, looks))

    def test_h_nothing_beyond_the_reach(self):
        for chance, hill, pages in small_cases("h", 30):
            page = some_page(chance, hill, 700)
            book, more = book_of(pages), book_of(pages + [page])
            ways, a, b = reach(hill, book, page)
            rows = touched(hill, book, page)
            for way, t in itertools.product(hill[0], range(hill[2] + 1)):
                one, other = why_shut(hill, book, way[0], t), why_shut(hill, more, way[0], t)
                inside = way[0] in ways and a <= t < b
                self.assertTrue(inside or one == other)
                differs = any(w == way[0] and low <= t < high for w, low, high in rows)
                self.assertEqual(differs, (one is None) != (other is None))

    def test_i_just_those_told_again(self):
        counted = 0
        for chance, hill, pages in small_cases("i", 20):
            house, asked = House(hill), []
            for page in pages + [("rule", 800, 0, hill[0][0][0], (("never",),))]:
                things = (chance.choice(GOERS), chance.choice(places(hill)), chance.randint(0, hill[2]), 0)
                asked.append(things + (house.let(*things),))
                house.tell(page)
                now = [t <= dict(latest(hill, house.book(), goer)).get(place, -1) for goer, place, t, *rest in asked]
                others = tuple((at, truth) for at, truth in enumerate(now) if truth != asked[at][4])
                self.assertEqual((house.lets(), house.again()), (tuple(asked), others))
                counted += len(others)
        self.assertGreater(counted, 20)

    def test_j_what_is_written_is_read_as_it_was(self):
        for chance, hill, pages in small_cases("j", 20):
            house, desk = House(hill), Desk(hill)
            for page in pages:
                self.assertIs(is_page(hill, read_page(hill, page_text(page))), True)
                house.tell(read_page(hill, page_text(page)))
                desk.say("tell " + page_text(page))
            self.assertEqual(read_book(hill, desk.say("book")), house.book())
            self.assertEqual(book_text(house.book()), desk.say("book"))
            self.assertIs(is_book(hill, read_book(hill, desk.say("book"))), True)


class LetUp(unittest.TestCase):
    """Point 3 e: whoever the house lets up goes by the told steps, whoever it doesn't is kept from home."""

    def begin(self, hill, pages, goer):
        self.hill, self.book, self.goer = hill, book_of(pages), goer
        self.days = plain.day(hill, pages)
        self.led, self.kept = set(), set()

    def others(self, shut):
        return [way for way in self.hill[0] if way[0] not in shut]

    def lead(self, left, shut, place, t):
        """Each shutting is tried at each moment at which the goer is at a place."""
        if place == self.hill[1] or (left, shut, place, t) in self.led:
            self.assertLessEqual(t, self.hill[2])
            return
        self.led.add((left, shut, place, t))
        w, m = step(self.hill, self.book, self.goer, left, shut, place, t)
        self.assertIn(w, self.days[m])
        self.assertNotIn(w, shut)
        for at, way in itertools.product(range(t, m + 1), self.others(shut) if left > 0 else ()):
            self.lead(left - 1, tuple(sorted(shut + (way[0],))), place, at)
        gone = [way for way in self.hill[0] if way[0] == w][0]
        self.assertEqual(gone[2], place)
        self.lead(left, shut, gone[3], m + plain.pace_of(gone, self.goer))

    def keep(self, left, shut, place, t):
        """Each way is tried to be entered at each moment."""
        if (left, shut, place, t) in self.kept:
            return
        self.kept.add((left, shut, place, t))
        self.assertNotEqual(place, self.hill[1])
        for way, m in itertools.product(self.others(shut), range(t, self.hill[2] + 1)):
            pace = plain.pace_of(way, self.goer)
            if way[2] == place and pace > 0 and way[0] in self.days[m]:
                if shutting(self.hill, self.book, self.goer, left, shut, place, t, way[0], m):
                    self.assertGreater(left, 0)
                    self.keep(left - 1, tuple(sorted(shut + (way[0],))), place, m)
                elif m + pace <= self.hill[2]:
                    self.keep(left, shut, way[3], m + pace)

    def test_e_every_play(self):
        led = kept = 0
        for chance, hill, pages in some_busy_cases("let up", 40, 7, 6, 4):
            house, goer = House(hill), chance.choice(GOERS)
            for page in pages:
                house.tell(page)
            self.begin(hill, pages, goer)
            for place, t, left in itertools.product(places(hill), range(hill[2] + 1), (0, 1, 2)):
                deed = self.lead if house.let(goer, place, t, left) else self.keep
                deed(left, (), place, t)
            led, kept = led + len(self.led), kept + len(self.kept)
        self.assertGreater(min(led, kept), 500, (led, kept))


class Handed(unittest.TestCase):
    def test_nothing_handed_in_is_changed_and_the_same_is_told_again(self):
        for chance, hill, pages in small_cases("handed", 5):
            page, place, t = some_page(chance, hill, 700), chance.choice(places(hill)), chance.randint(0, hill[2])
            starts, looks = some_starts(chance, hill, 4, places(hill)), some_looks(chance, hill, 4)
            things = [hill, pages, page, starts, looks, book_of(pages)]
            kept = copy.deepcopy(things)
            told = [self.all_told(*things, place, t) for _ in range(2)]
            self.assertEqual(told[0], told[1])
            self.assertEqual(things, kept)
            self.plain_kinds(told[0])

    def all_told(self, hill, pages, page, starts, looks, book, place, t):
        house, desk = House(hill), Desk(hill)
        for one in pages:
            house.tell(one)
            desk.say("tell " + page_text(one))
        return (
            arrivals(hill, book, "rider", place, t), latest(hill, book, "rider"), safe(hill, book, "rider", 1),
            crowd(hill, book, "rider", starts), fewest(hill, looks), touched(hill, book, page), reach(hill, book, page),
            house.let("rider", place, t, 2), house.lets(), house.again(), house.book(), house.outlook(hill[0][0][0], t),
            desk.say(f"home rider {place} {t}"), desk.say("book"), desk.say(f"crowd rider {shown(starts)}"),
        )

    def plain_kinds(self, thing):
        """Tuples, texts, whole numbers, truths and None alone."""
        self.assertIn(type(thing), (tuple, str, int, bool, type(None)))
        if type(thing) is tuple:
            for part in thing:
                self.plain_kinds(part)


if __name__ == "__main__":
    unittest.main()
