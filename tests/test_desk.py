"""The desk (19; 3 j; 2)."""

import random
import unittest

from homeslopes import errors
from homeslopes.arriving import walk
from homeslopes.crowds import crowd
from homeslopes.desk import Desk
from homeslopes.errors import HillError, NoHill, NoLine
from homeslopes.hills import places
from homeslopes.homing import bar
from homeslopes.house import House
from homeslopes.opening import open_ways
from homeslopes.pages import book_of
from homeslopes.patrols import fewest
from homeslopes.showing import book_text, page_text
from homeslopes.touching import touched
from tests import plain, plain_texts
from tests.making import (
    exchanged, odd_things, some_busy_cases, some_hanging_cases, some_looks, some_page, some_pages, some_starts,
)
from tests.plain_desk import PlainDesk, shown, told_alike

FAST = ("fast", "slope", "top", "home", 3, 2)
HILL = (
    (
        FAST, ("slow", "path", "top", "home", 9, 0), ("up", "lift", "home", "top", 0, 4),
        ("rock", "slope", "top", "hut", 0, 0), ("bowl", "slope", "top", "hut", 2, 2),
    ),
    "home",
    30,
)
RIGHT = (
    "tell read 3 20 wind -5", "tell look 4 25 fast", "tell rule 5 0 bowl hours 8 17, least snow 30, with up, never",
    "tell rule 6 0 slow -", "strike 0", "open 12", "way fast 12", "way bowl 9", "let walker top 12 1", "again",
    "home walker top 12", "home rider hut 12", "crowd walker top 12, top 12, home 3", "crowd rider top 28",
    "patrols fast 12, bowl 3, fast 12", "patrols bowl 3", "book",
)
SIGNS = " ,-+.0129aehtz_A\n\t\u0663"
WORDS = ("", "-", "0", "1", "2", "3", "-0", "-1", "00", "30", "31", "+1", "9" * 60, "9" * 61, "walker", "rider",
         "skier", "home", "top", "hut", "far", "fast", "slow", "up", "rock", "bowl", "open", "again", "book", "let",
         "way", "tell", "crowd", "patrols", "strike", "fast,", "12,", ",", "never", "abcdefghi", "Fast", "book\n")


class Asking(unittest.TestCase):
    def refuses(self, error, desk, line):
        """The line is refused with this very error."""
        with self.assertRaises(HillError) as caught:
            desk.say(line)
        self.assertIs(type(caught.exception), error, line)

    def say(self, desk, *rows):
        """Each line of the rows is answered as told there."""
        for line, asked in rows:
            self.assertEqual(desk.say(line), asked, line)

    def compared(self, desk, asked, line):
        """The answer to the line, None where it is refused, as the plain desk has it."""
        error = asked.refusal(line)
        if error is not None:
            self.refuses(getattr(errors, error), desk, line)
            return None
        return told_alike(self, desk, asked, line)


class Lines(Asking):
    def test_no_hill(self):
        small = ((FAST,), "home", 30)
        for thing in exchanged(small):
            if plain.hill(thing):
                self.assertEqual(Desk(thing).say("book"), "")
            else:
                with self.assertRaises(HillError) as caught:
                    Desk(thing)
                self.assertIs(type(caught.exception), NoHill)

    def test_tell_and_strike(self):
        desk = Desk(HILL)
        self.say(desk, ("tell rule 0 0 fast hours 8 17", "fast 0 8, fast 17 31"), ("tell read 1 0 wind 3", "-"),
                 ("tell rule 2 5 slow with fast", "slow 5 8, slow 17 31"),
                 ("strike 0", "fast 0 8, fast 17 31, slow 5 8, slow 17 31"),
                 ("strike 1", "-"), ("tell rule 0 0 fast never", "fast 0 31, slow 5 31"), ("strike 2", "slow 5 31"),
                 ("book", "rule 0 0 fast never"), ("strike 0", "fast 0 31"), ("book", ""))

    def test_open(self):
        desk = Desk(HILL)
        self.say(desk, ("open 0", "fast slow up rock bowl"), ("open 30", "fast slow up rock bowl"))
        for number, w in enumerate(("up", "fast", "rock", "slow", "bowl")):
            desk.say(f"tell rule {number} 7 {w} never")
            self.assertEqual(desk.say("open 6"), "fast slow up rock bowl")
        self.say(desk, ("open 7", "-"), ("strike 3", "slow 7 31"), ("open 7", "slow"), ("strike 0", "up 7 31"),
                 ("open 30", "slow up"))

    def test_way(self):
        desk = Desk(HILL)
        self.say(desk, ("way fast 3", "open"), ("tell rule 0 0 fast hours 0 31, hours 8 17", "fast 0 8, fast 17 31"),
                 ("way fast 3", "shut 1 8"), ("way fast 8", "open 17 1"), ("way fast 16", "open 17 1"),
                 ("way fast 17", "shut 1"), ("way fast 30", "shut 1"), ("way slow 30", "open"),
                 ("tell rule 1 12 fast never", "fast 12 17"), ("way fast 11", "open 12 0"), ("way fast 12", "shut 0"))

    def test_let_and_again(self):
        desk = Desk(HILL)
        self.say(desk, ("again", "-"), ("let walker top 27 0", "yes"), ("let walker top 28 0", "no"),
                 ("let walker top 21 1", "yes"), ("let rider top 20 0", "yes"), ("again", "-"),
                 ("tell rule 0 0 fast never", "fast 0 31"), ("again", "0 no, 2 no, 3 no"),
                 ("let rider top 20 0", "no"), ("again", "0 no, 2 no, 3 no"), ("strike 0", "fast 0 31"),
                 ("again", "4 yes"))

    def test_home(self):
        desk = Desk(HILL)
        self.say(desk, ("home walker top 27", "fast 27"), ("home walker top 28", "barred by hut 30, top 28"),
                 ("home walker home 30", "-"), ("home rider home 4", "-"), ("home rider hut 4", "barred by hut 4"),
                 ("tell rule 0 0 fast hours 12 13", "fast 0 12, fast 13 31"), ("home walker top 4", "slow 4"),
                 ("home rider top 4", "fast 12"), ("home rider top 13", "barred by hut 15, top 13"))

    def test_several_ways_home(self):
        hill = (FAST, ("lane", "path", "hut", "top", 2, 2), ("down", "path", "far", "hut", 5, 0)), "home", 30
        desk = Desk(hill)
        self.say(desk, ("home walker far 3", "down 3, lane 8, fast 10"), ("home walker hut 3", "lane 3, fast 5"),
                 ("home walker far 21", "barred by far 21, hut 26, top 28"))

    def test_crowd(self):
        desk = Desk(HILL)
        self.say(desk, ("crowd walker top 27", "1"), ("crowd walker top 27, top 27", "1"), ("crowd walker top 28", "0"),
                 ("crowd walker top 26, top 27, home 30, hut 0", "3"), ("crowd rider home 0", "1"),
                 ("crowd walker " + ", ".join(["top 0"] * 12), "12"),
                 ("crowd rider " + ", ".join(["top 20"] * 12), "9"))

    def test_patrols(self):
        desk = Desk(HILL)
        self.say(desk, ("patrols fast 3", "1"), ("patrols fast 3, fast 3", "2"), ("patrols fast 3, fast 9", "1"),
                 ("patrols fast 3, fast 8", "2"), ("patrols fast 9, fast 3", "1"), ("patrols bowl 0, fast 2", "2"),
                 ("patrols " + ", ".join(["bowl 30"] * 24), "24"), ("patrols fast 30", "1"))

    def test_book(self):
        desk = Desk(HILL)
        self.say(desk, ("book", ""), ("tell look 4 20 fast", "-"), ("book", "look 4 20 fast"),
                 ("tell read 9 3 wind -5", "-"),
                 ("tell rule 1 3 up never, with up", "up 3 31"), ("tell rule 0 20 up -", "up 20 31"),
                 ("book", "rule 1 3 up never, with up\nread 9 3 wind -5\nrule 0 20 up -\nlook 4 20 fast"))

    def test_the_same_line_behind_another_page(self):
        desk = Desk(HILL)
        self.say(desk, ("open 3", "fast slow up rock bowl"), ("way up 3", "open"), ("home rider top 3", "fast 3"),
                 ("crowd rider top 3, top 3", "2"), ("patrols fast 3", "1"), ("let rider top 3 0", "yes"),
                 ("tell rule 7 2 fast never", "fast 2 31"), ("tell rule 8 2 up with fast", "up 2 31"),
                 ("open 3", "slow rock bowl"), ("way up 3", "shut 0"), ("home rider top 3", "barred by hut 5, top 3"),
                 ("crowd rider top 3, top 3", "0"), ("patrols fast 3", "1"), ("let rider top 3 0", "no"))


class Refused(Asking):
    def desk(self):
        desk, asked = Desk(HILL), PlainDesk(HILL)
        for line in ("tell read 0 0 wind 3", "tell rule 1 0 bowl hours 3 20", "let walker top 12 0",
                     "let rider top 29 0", "tell rule 2 12 fast never"):
            self.compared(desk, asked, line)
        return desk, asked

    def edited(self, others):
        """How many of the lines are refused by each error and how many aren't; behind these there is a new desk."""
        counted = {}
        desk, asked = self.desk()
        before = [desk.say("book"), desk.say("again")]
        for line in others:
            error = asked.refusal(line)
            counted[error] = counted.get(error, 0) + 1
            self.compared(desk, asked, line)
            if error is not None:
                self.assertEqual([desk.say("book"), desk.say("again")], before)
            else:
                desk, asked = self.desk()
        return counted

    def test_lines_that_are_right(self):
        self.assertEqual(self.edited(RIGHT), {None: len(RIGHT)})

    def test_a_sign_or_a_word_put_in_left_out_or_exchanged(self):
        chance = random.Random("signs and words")
        for line in RIGHT:
            for some in (plain_texts.edits(line, SIGNS), plain_texts.word_edits(line, WORDS)):
                others = sorted(set(some))
                counted = self.edited(chance.sample(others, min(140, len(others))))
                self.assertGreater(counted["NoLine"], 30, line)

    def test_blanks_and_line_feeds_at_either_end(self):
        desk, asked = self.desk()
        for line in RIGHT:
            for more in (" ", "\n", "\t", ",", ", ", "  ", " -"):
                self.refuses(NoLine, desk, line + more)
                self.refuses(NoLine, desk, more + line)
            self.refuses(NoLine, desk, line.replace(" ", "  ") + " ")
            self.refuses(NoLine, desk, line.upper())
            self.refuses(NoLine, desk, line.title())

    def test_no_line(self):
        desk, asked = self.desk()
        for line in ("", " ", "-", "tell", "tell ", "strike", "open", "way", "way fast", "let walker top 3",
                     "home walker top", "crowd", "crowd walker", "crowd walker ", "crowd walker -", "patrols",
                     "patrols ", "patrols -",
                     "books", "lets", "outlook fast 3", "say book", "again 0", "book 0", "open 3 4", "open fast",
                     "way 3 fast", "way fast 3 4", "let walker top 3 1 1", "home walker top 3 1", "crowd top 3",
                     "crowd walker top 3,top 3", "crowd walker top 3 top 3", "crowd walker, top 3",
                     "crowd walker top 3, ", "crowd walker top, top 3",
                     "patrols fast 3, fast", "patrols fast 3 4", "patrols fast", "patrols 3 fast", "strike 01",
                     "strike -0", "strike +1", "strike one", "open 1.0", "open 1_0", "open " + "9" * 61, "open \u0663",
                     "let Walker top 3 1", "home walker abcdefghi 3", "tell book", "tell 3", "tell read 3 20 wind",
                     "tell look 4 25 up", "tell read 3 31 wind 3", "tell read 1000000 3 wind 3",
                     "tell rule 3 3 other -", "tell tell look 4 25 fast",
                     "tell rule 3 3 fast with other", "tell rule 3 3 fast", "tell look 4 25 fast\nlook 5 25 fast"):
            self.assertEqual(asked.refusal(line), "NoLine", line)
            self.refuses(NoLine, desk, line)

    def test_too_many_starts_or_looks(self):
        desk, asked = self.desk()
        for line in ("crowd walker " + ", ".join(["home 3"] * 13), "crowd skier " + ", ".join(["far 31"] * 13),
                     "patrols " + ", ".join(["bowl 3"] * 25), "patrols " + ", ".join(["far 99"] * 25)):
            self.refuses(NoLine, desk, line)
        self.say(desk, ("crowd walker " + ", ".join(["home 3"] * 12), "12"),
                 ("patrols " + ", ".join(["bowl 3"] * 24), "24"))

    def test_of_anything(self):
        desk, asked = self.desk()
        for odd in odd_things() + [["book"], ("book",), b"book", {"book": 1}, ("open", 3), ["open", "3"]]:
            before = repr(odd)
            self.refuses(NoLine, desk, odd)
            self.refuses(NoLine, desk, [odd])
            self.assertEqual(repr(odd), before)

    def test_refused_as_the_house_does(self):
        desk, asked = self.desk()
        for line, error in (
            ("tell read 0 5 snow 3", "Twice"), ("tell rule 1 5 up -", "Twice"), ("strike 3", "NoNumber"),
            ("strike -1", "NoNumber"), ("strike " + "9" * 60, "NoNumber"), ("open 31", "NoMoment"),
            ("open -1", "NoMoment"),
            ("open " + "9" * 60, "NoMoment"), ("way far 3", "NoWay"), ("way top 31", "NoWay"),
            ("way fast 31", "NoMoment"),
            ("way fast -1", "NoMoment"), ("let skier top 3 1", "NoGoer"), ("let skier far 31 3", "NoGoer"),
            ("let walker far 3 1", "NoPlace"), ("let walker fast 31 3", "NoPlace"), ("let walker top 31 1", "NoMoment"),
            ("let walker top -1 3", "NoMoment"), ("let walker top 3 3", "NoNumber"), ("let rider top 3 -1", "NoNumber"),
            ("home skier top 3", "NoGoer"), ("home skier far 31", "NoGoer"), ("home walker far 31", "NoPlace"),
            ("home walker fast 3", "NoPlace"), ("home walker top 31", "NoMoment"), ("home walker home -1", "NoMoment"),
            ("crowd skier far 31", "NoGoer"), ("crowd skier top 3", "NoGoer"), ("crowd walker far 31", "NoPlace"),
            ("crowd walker top 31, far 3", "NoMoment"), ("crowd walker far 3, top 31", "NoPlace"),
            ("crowd walker top 3, far 31", "NoPlace"), ("crowd walker top 3, top 31", "NoMoment"),
            ("patrols far 31", "NoWay"), ("patrols up 3", "NoWay"), ("patrols slow 3", "NoWay"),
            ("patrols rock 3", "NoWay"),
            ("patrols top 3", "NoWay"), ("patrols rock 31", "NoWay"), ("patrols fast 31", "NoMoment"),
            ("patrols fast 31, rock 3", "NoMoment"), ("patrols fast 3, rock 31", "NoWay"),
            ("patrols fast -1", "NoMoment"),
            ("patrols rock 3, fast 31", "NoWay"), ("patrols fast 3, bowl 31", "NoMoment"),
        ):
            before = [desk.say("book"), desk.say("again")]
            self.assertEqual(asked.refusal(line), error, line)
            self.refuses(getattr(errors, error), desk, line)
            self.assertEqual([desk.say("book"), desk.say("again")], before)

    def test_too_long_behind_these(self):
        for dark in (60, 61, 1000000):
            desk = Desk((HILL[0], "home", dark))
            for line, error in ((f"crowd skier far {dark + 1}", "NoGoer"), (f"crowd walker far {dark + 1}", "NoPlace"),
                                (f"crowd walker top {dark + 1}", "NoMoment"), (f"crowd walker top 3, far 3", "NoPlace"),
                                ("crowd walker top", "NoLine"),
                                ("crowd walker " + ", ".join(["top 3"] * 13), "NoLine")):
                self.refuses(getattr(errors, error), desk, line)
            if dark > 60:
                self.refuses(errors.TooLong, desk, "crowd walker top 3")
                self.refuses(errors.TooLong, desk, "crowd walker home 3, home 3")
            else:
                self.assertEqual(desk.say("crowd walker top 57, top 57"), "1")

    def test_several_things_wrong_by_chance(self):
        chance = random.Random("several")
        desk, asked = self.desk()
        counted = {}
        goers, ways = ("walker", "rider", "skier", "top"), ("fast", "up", "rock", "hut")
        spots = ("home", "top", "hut", "far", "fast")
        moments, lefts = (0, 12, 30, 31, -1), (0, 1, 2, 3, -1)
        for _ in range(600):
            goer, w, t, left = (chance.choice(some) for some in (goers, ways, moments, lefts))
            starts = [(chance.choice(spots), chance.choice(moments)) for _ in range(chance.randint(1, 3))]
            looks = [(chance.choice(ways), chance.choice(moments)) for _ in range(chance.randint(1, 3))]
            line = chance.choice((
                f"let {goer} {shown(starts[:1])} {left}", f"home {goer} {shown(starts[:1])}", f"way {w} {t}",
                f"open {t}", f"crowd {goer} {shown(starts)}", f"patrols {shown(looks)}", f"strike {left}",
                f"tell read {abs(t)} 12 wind {left}",
            ))
            error = asked.refusal(line)
            counted[error] = counted.get(error, 0) + 1
            self.compared(desk, asked, line)
        self.assertGreater(min(counted.values()), 4, counted)
        self.assertEqual(set(counted), {None, "NoGoer", "NoPlace", "NoMoment", "NoNumber", "NoWay", "Twice"})


class Compared(Asking):
    def some_line(self, chance, hill, pages):
        """A line about the hill; its pages are told late, struck and told again."""
        goer, place = chance.choice(("walker", "rider")), chance.choice(places(hill))
        t, page = chance.randint(0, hill[2]), chance.choice(pages)
        starts, looks = some_starts(chance, hill, chance.randint(1, 3), places(hill)), some_looks(chance, hill, 4)
        return chance.choice((
            "tell " + page_text(page), "tell " + page_text(page), f"strike {page[1]}", f"open {t}",
            f"way {chance.choice(hill[0])[0]} {t}", f"let {goer} {place} {t} {chance.choice((0, 1, 2))}",
            f"let {goer} {place} {t // 2} 0", "again", f"home {goer} {place} {t}", f"crowd {goer} {shown(starts)}",
            f"patrols {shown(looks)}" if looks else "book",
            "book",
        ))

    def test_many_lines(self):
        counted = {}
        for chance, hill, pages in list(some_busy_cases("desk", 40)) + list(some_hanging_cases("hanging desk", 25, 7)):
            pages += [some_page(chance, hill, 500 + at) for at in range(3)]
            pages += [("rule", 510 + at, 0, way[0], (("never",),)) for at, way in enumerate(hill[0][:3])]
            desk, asked = Desk(hill), PlainDesk(hill)
            for _ in range(60):
                line = self.some_line(chance, hill, pages)
                told = self.compared(desk, asked, line)
                word = line.split(" ")[0]
                counted.setdefault(word, set()).add(told)
            self.assertEqual(desk.say("book"), asked.answer("book"))
            self.assertEqual(desk.say("again"), asked.answer("again"))
        self.assertEqual(counted["let"], {"yes", "no"})
        self.assertGreater(min(len(texts) for word, texts in counted.items() if word != "let"), 3)
        self.assertGreater(len(counted["again"]), 8)

    def test_as_the_functions_and_a_house_tell(self):
        for chance, hill, pages in some_busy_cases("as functions", 40, 40, 8, 20):
            desk, house = Desk(hill), House(hill)
            for page in pages:
                asked = shown(touched(hill, house.book(), page))
                house.tell(page)
                self.assertEqual(desk.say("tell " + page_text(page)), asked)
            book = house.book()
            self.assertEqual(desk.say("book"), book_text(book))
            for place in places(hill):
                t = chance.randint(0, hill[2])
                steps = walk(hill, book, "rider", place, t, "home")
                text = "barred by " + shown(bar(hill, book, "rider", place, t)) if steps is None else shown(steps)
                self.assertEqual(desk.say(f"home rider {place} {t}"), text)
                self.assertEqual(desk.say(f"let rider {place} {t} 1") == "yes", house.let("rider", place, t, 1))
                self.assertEqual(desk.say(f"open {t}"), " ".join(open_ways(hill, book, t)) or "-")
            starts, looks = some_starts(chance, hill, 12, places(hill)), some_looks(chance, hill, 24)
            walks = [steps for steps in crowd(hill, book, "rider", starts)[0] if steps is not None]
            self.assertEqual(desk.say(f"crowd rider {shown(starts)}"), str(len(walks)))
            if looks:
                self.assertEqual(desk.say(f"patrols {shown(looks)}"), str(len(fewest(hill, looks)[0])))

    def test_two_desks_apart(self):
        one, other = Desk(HILL), Desk(HILL)
        one.say("tell rule 0 0 fast never")
        one.say("let rider top 3 0")
        self.say(other, ("book", ""), ("again", "-"), ("open 3", "fast slow up rock bowl"),
                 ("let rider top 3 0", "yes"),
                 ("tell rule 0 0 up never", "up 0 31"))
        self.say(one, ("book", "rule 0 0 fast never"), ("strike 0", "fast 0 31"), ("again", "0 yes"))
        self.say(other, ("book", "rule 0 0 up never"), ("again", "-"))

    def test_the_book_told_line_by_line_to_another_desk(self):
        for chance, hill, pages in some_busy_cases("line by line", 30, 8, 5, 10):
            one, other = Desk(hill), Desk(hill)
            for page in pages:
                one.say("tell " + page_text(page))
            for page in pages[::3]:
                one.say(f"strike {page[1]}")
            lines = one.say("book").split("\n") if one.say("book") else []
            chance.shuffle(lines)
            for line in lines:
                other.say("tell " + line)
            self.assertEqual(other.say("book"), one.say("book"))
            for _ in range(20):
                line = self.some_line(chance, hill, pages or [("read", 0, 0, "wind", 1)])
                if line.split(" ")[0] not in ("tell", "strike"):
                    self.assertEqual(one.say(line), other.say(line), line)

    def test_a_long_day(self):
        chance = random.Random("a long day")
        hill = (HILL[0], "home", 1000000)
        pages = some_pages(chance, hill, 60)
        desk, house = Desk(hill), House(hill)
        for page in pages:
            house.tell(page)
            desk.say("tell " + page_text(page))
        self.assertEqual(desk.say("book"), book_text(book_of(pages)))
        for t in (0, 1, 500000, 999999, 1000000):
            self.assertEqual(desk.say(f"open {t}"), " ".join(open_ways(hill, house.book(), t)) or "-")
            self.assertEqual(desk.say(f"let rider top {t} 2") == "yes", house.let("rider", "top", t, 2))


if __name__ == "__main__":
    unittest.main()
