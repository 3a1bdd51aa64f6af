"""The desk told again by patterns and moment by moment, to compare the program with."""

import re

from tests import plain, plain_rounds, plain_texts, plain_touching
from tests.plain_texts import NAME, NUMBER

PAIR = f"{NAME} {NUMBER}"
LINES = {
    "strike": f"strike ({NUMBER})",
    "open": f"open ({NUMBER})",
    "way": f"way ({NAME}) ({NUMBER})",
    "let": f"let ({NAME}) ({NAME}) ({NUMBER}) ({NUMBER})",
    "again": "again",
    "home": f"home ({NAME}) ({NAME}) ({NUMBER})",
    "crowd": f"crowd ({NAME}) ({PAIR}(?:, {PAIR}){{0,11}})",
    "patrols": f"patrols ({PAIR}(?:, {PAIR}){{0,23}})",
    "book": "book",
}


def shown(rows):
    return ", ".join(" ".join(map(str, part)) for part in rows) or "-"


def pairs(text):
    return tuple(plain_texts.things(part) for part in text.split(", "))


class PlainDesk:
    """What a desk is to answer; home's answers are looked at, as which walk or bar is told isn't promised."""

    def __init__(self, of):
        self.of = of
        self.pages = {}
        self.asked = []
        self.known = {}

    def parted(self, line):
        """The pair (word, things) that the line is, None where it is none."""
        if type(line) is not str:
            return None
        if line.startswith("tell "):
            page = plain_texts.page(self.of, line[5:])
            return None if page is None else ("tell", [page])
        for word, pattern in LINES.items():
            found = re.fullmatch(pattern, line)
            if found:
                if word in ("crowd", "patrols"):
                    return word, list(found.groups()[:-1]) + [pairs(found.groups()[-1])]
                return word, [plain_texts.things(part)[0] for part in found.groups()]
        return None

    def told(self):
        return list(self.pages.values())

    def days(self):
        key = tuple(sorted(self.pages.values()))
        if key not in self.known:
            days = plain.day(self.of, self.told())
            self.known[key] = days, {goer: plain.Game(self.of, days, goer) for goer in ("walker", "rider")}
        return self.known[key]

    def wrong(self, *tests):
        """The name of the first refusal whose thing isn't in what it is to be in, None without one."""
        return next((error for error, thing, right in tests if thing not in right), None)

    def wrong_asking(self, goer, *rest):
        """Of a goer, then of places and moments in turn."""
        spots, moments = plain.spots_of(self.of), range(self.of[2] + 1)
        tests = [("NoGoer", goer, ("walker", "rider"))]
        for place, t in zip(rest[::2], rest[1::2]):
            tests += [("NoPlace", place, spots), ("NoMoment", t, moments)]
        return tests

    def refusal(self, line):
        """The name of the error with which the line is refused, None where it isn't."""
        found = self.parted(line)
        if found is None:
            return "NoLine"
        word, things = found
        moments = range(self.of[2] + 1)
        if word == "tell":
            return "Twice" if things[0][1] in self.pages else None
        if word == "strike":
            return self.wrong(("NoNumber", things[0], self.pages))
        if word == "open":
            return self.wrong(("NoMoment", things[0], moments))
        if word == "way":
            names = [part[0] for part in self.of[0]]
            return self.wrong(("NoWay", things[0], names), ("NoMoment", things[1], moments))
        if word == "let":
            return self.wrong(*self.wrong_asking(*things[:3]), ("NoNumber", things[3], (0, 1, 2)))
        if word == "home":
            return self.wrong(*self.wrong_asking(*things))
        if word == "crowd":
            parts = [part for pair in things[1] for part in pair]
            return self.wrong(*self.wrong_asking(things[0], *parts)) or ("TooLong" if self.of[2] > 60 else None)
        if word == "patrols":
            slopes = [part[0] for part in self.of[0] if part[1] == "slope" and part[4:6] != (0, 0)]
            tests = [test for s, m in things[0] for test in (("NoWay", s, slopes), ("NoMoment", m, moments))]
            return self.wrong(*tests)
        return None

    def lets_up(self, goer, place, t, left):
        return self.days()[1][goer].wins(place, t, (), left)

    def answer(self, line):
        """What is to be answered to a line that isn't refused; None for home's."""
        word, things = self.parted(line)
        return getattr(self, "answer_" + word)(*things)

    def answer_tell(self, page):
        text = shown(plain_touching.touched(self.of, self.told(), page))
        self.pages[page[1]] = page
        return text

    def answer_strike(self, number):
        page = self.pages.pop(number)
        return shown(plain_touching.touched(self.of, self.told(), page))

    def answer_open(self, t):
        return " ".join(self.days()[0][t]) or "-"

    def answer_way(self, w, t):
        word, one, other = plain.outlook(self.of, self.told(), self.days()[0], w, t)
        if word == "open":
            return "open" if one is None else f"open {one} {other}"
        return f"shut {one}" if other is None else f"shut {one} {other}"

    def answer_let(self, goer, place, t, left):
        self.asked.append((goer, place, t, left, self.lets_up(goer, place, t, left)))
        return "yes" if self.asked[-1][4] else "no"

    def answer_again(self):
        rows = [(at, "no" if row[4] else "yes") for at, row in enumerate(self.asked)
                if self.lets_up(*row[:4]) != row[4]]
        return shown(rows)

    def answer_home(self, goer, place, t):
        return None

    def answer_crowd(self, goer, starts):
        return str(plain.most_home(self.of, self.days()[0], goer, starts))

    def answer_patrols(self, looks):
        return str(plain_rounds.most_apart(self.of, looks))

    def answer_book(self):
        lines = sorted(self.told(), key=lambda page: (page[2], page[1]))
        return "\n".join(shown([page[:4] + (shown(page[4]),) if page[0] == "rule" else page]) for page in lines)

    def home_fits(self, line, text):
        """Whether the text is a walk home as early as can be, or a bar where there is none."""
        goer, place, t = self.parted(line)[1]
        came = dict(plain.arrivals(self.of, self.days()[0], goer, place, t)).get(self.of[1])
        if came is None:
            rows = pairs(text[len("barred by "):])
            shows = plain.shows_bar(self.of, self.days()[0], goer, place, t, rows)
            return shows and text == "barred by " + shown(rows)
        rows = () if text == "-" else pairs(text)
        shows = plain.shows_walk(self.of, self.told(), goer, place, t, self.of[1], came, rows)
        return shows and text == shown(rows)


def told_alike(test, desk, asked, line):
    """The answer of the desk to a line that isn't refused, once the test has it as the plain desk asked has it."""
    test.assertIsNone(asked.refusal(line))
    text, told = asked.answer(line), desk.say(line)
    test.assertIs(type(told), str)
    if text is None:
        test.assertTrue(asked.home_fits(line, told), (line, told))
    else:
        test.assertEqual(told, text, line)
    return told
