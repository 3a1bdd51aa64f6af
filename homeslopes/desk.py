"""The desk: a house asked and told by lines of text."""

from homeslopes.arriving import walk
from homeslopes.asking import need_goer, need_look, need_moment, need_place
from homeslopes.crowds import crowd
from homeslopes.errors import NoLine, NoText
from homeslopes.hills import is_name, is_whole
from homeslopes.homing import bar
from homeslopes.house import House
from homeslopes.opening import open_ways
from homeslopes.patrols import fewest
from homeslopes.reading import read_page, thing_of
from homeslopes.showing import book_text, row_text, rows_text
from homeslopes.touching import touched

MOST_STARTS = 12
MOST_LOOKS = 24


def is_of_kind(thing, kind):
    """Whether what a word tells is of the kind, name or number."""
    return is_name(thing) if kind == "name" else is_whole(thing)


def things_of(words, kinds):
    """The tuple of what the words tell, one of each of the kinds."""
    things = tuple([thing_of(word) for word in words])
    if len(things) != len(kinds) or not all([is_of_kind(thing, kind) for thing, kind in zip(things, kinds)]):
        raise NoLine("no line has such words")
    return things


def pairs_of(words, most):
    """The tuple of the pairs of a name and a number that the words tell, no more than most."""
    parts = " ".join(words).split(", ")
    if len(parts) > most:
        raise NoLine("these are too many")
    return tuple([things_of(part.split(" "), ("name", "number")) for part in parts])


def page_in(hill, words):
    """The page of which the words are the text."""
    try:
        return read_page(hill, " ".join(words))
    except NoText:
        raise NoLine("this is no page's text") from None


def say_tell(house, words):
    """Tell the page: what it touches."""
    page = page_in(house.hill, words)
    book = house.book()
    house.tell(page)
    return rows_text(touched(house.hill, book, page))


def say_strike(house, words):
    """Strike the page of this number: what it touched."""
    number = things_of(words, ("number",))[0]
    book = house.book()
    house.strike(number)
    page = [other for other in book if other[1] == number][0]
    return rows_text(touched(house.hill, house.book(), page))


def say_open(house, words):
    """The names of the ways open at this moment."""
    t = things_of(words, ("number",))[0]
    need_moment(house.hill, t)
    names = open_ways(house.hill, house.book(), t)
    return row_text(names) if len(names) > 0 else "-"


def say_way(house, words):
    """The outlook of this way at this moment, without what is None in it."""
    w, t = things_of(words, ("name", "number"))
    return row_text([part for part in house.outlook(w, t) if part is not None])


def yes_or_no(answer):
    """The word for the truth."""
    return "yes" if answer else "no"


def say_let(house, words):
    """Whether this goer is let up."""
    goer, place, t, left = things_of(words, ("name", "name", "number", "number"))
    return yes_or_no(house.let(goer, place, t, left))


def say_again(house, words):
    """The askings whose answer would be another one now."""
    things_of(words, ())
    return rows_text([(number, yes_or_no(answer)) for number, answer in house.again()])


def say_home(house, words):
    """The walk home, or the bar."""
    goer, place, t = things_of(words, ("name", "name", "number"))
    need_goer(goer)
    need_place(house.hill, place)
    need_moment(house.hill, t)
    book = house.book()
    steps = walk(house.hill, book, goer, place, t, house.hill[1])
    if steps is not None:
        return rows_text(steps)
    return "barred by " + rows_text(bar(house.hill, book, goer, place, t))


def say_crowd(house, words):
    """How many of these starts come home."""
    goer = things_of(words[:1], ("name",))[0]
    starts = pairs_of(words[1:], MOST_STARTS)
    need_goer(goer)
    for place, t in starts:
        need_place(house.hill, place)
        need_moment(house.hill, t)
    walks, cut = crowd(house.hill, house.book(), goer, starts)
    return str(len([steps for steps in walks if steps is not None]))


def say_patrols(house, words):
    """How many rounds do these looks."""
    looks = pairs_of(words, MOST_LOOKS)
    for s, m in looks:
        need_look(house.hill, s)
        need_moment(house.hill, m)
    rounds, apart = fewest(house.hill, looks)
    return str(len(rounds))


def say_book(house, words):
    """The text of the book."""
    things_of(words, ())
    return book_text(house.book())


SAYINGS = {
    "tell": say_tell, "strike": say_strike, "open": say_open, "way": say_way, "let": say_let, "again": say_again,
    "home": say_home, "crowd": say_crowd, "patrols": say_patrols, "book": say_book,
}


class Desk:
    """A house that is told and asked by lines."""

    def __init__(self, hill):
        self.house = House(hill)

    def say(self, line):
        """The text that answers the line."""
        words = line.split(" ") if isinstance(line, str) else [""]
        if words[0] not in SAYINGS:
            raise NoLine("this is no line")
        saying = SAYINGS[words[0]]
        return saying(self.house, words[1:])
