"""The house: keeps the pages that stand, and who was let up by them."""

from homeslopes.arriving import ways_to_go
from homeslopes.asking import asked_outlook, need_goer, need_left, need_moment, need_place
from homeslopes.errors import NoHill, NoNumber, NoPage, Twice
from homeslopes.games import safe_tables
from homeslopes.hills import is_hill, is_whole
from homeslopes.pages import book_of, is_page


def safe_moments(hill, book, goer, left):
    """A dict: to each place at which a goer is safe at some moment, none shut already, the latest one."""
    return safe_tables(hill, ways_to_go(hill, book, goer), (), left)[()]


def is_safe(moments, place, t):
    """Whether one at place at t is safe by the latest moments."""
    return place in moments and t <= moments[place]


class House:
    """A hill, the pages told of it and not struck, and the askings with the answers they got."""

    def __init__(self, hill):
        if not is_hill(hill):
            raise NoHill("this is no hill")
        self.hill = hill
        self.pages = {}
        self.kept = []

    def tell(self, page):
        """Take the page in."""
        if not is_page(self.hill, page):
            raise NoPage("this is no page of the hill")
        if page[1] in self.pages:
            raise Twice("a page of this number stands already")
        self.pages[page[1]] = page

    def strike(self, number):
        """Take the page of this number out again."""
        if not is_whole(number) or number not in self.pages:
            raise NoNumber("no page of this number stands")
        self.pages.pop(number)

    def book(self):
        """The book of the pages that stand."""
        return book_of(list(self.pages.values()))

    def let(self, goer, place, t, left):
        """Whether a goer who is at place at t is safe with so many shuttings let in; the answer is kept."""
        need_goer(goer)
        need_place(self.hill, place)
        need_moment(self.hill, t)
        need_left(left)
        answer = is_safe(safe_moments(self.hill, self.book(), goer, left), place, t)
        self.kept.append((goer, place, t, left, answer))
        return answer

    def lets(self):
        """The askings with their answers as they were told."""
        return tuple(self.kept)

    def again(self):
        """The pairs (number, answer now) of the askings whose answer would be another one now."""
        book = self.book()
        known = {}
        found = []
        for number, (goer, place, t, left, answer) in enumerate(self.kept):
            if (goer, left) not in known:
                known[(goer, left)] = safe_moments(self.hill, book, goer, left)
            now = is_safe(known[(goer, left)], place, t)
            if now != answer:
                found.append((number, now))
        return tuple(found)

    def outlook(self, w, t):
        """How the way w is at t, by which rule, and when it is otherwise."""
        return asked_outlook(self.hill, self.book(), w, t)
