"""Reading: pages and books from their texts."""

from homeslopes.errors import NoText
from homeslopes.pages import is_book, is_page

MOST_FIGURES = 60


def are_figures(word):
    """Whether the word is one to sixty figures, no 0 ahead but of 0 itself."""
    if not 1 <= len(word) <= MOST_FIGURES or not all(["0" <= sign <= "9" for sign in word]):
        return False
    return word == "0" or word[0] != "0"


def thing_of(word):
    """The number that the word writes, the word itself where it writes none."""
    if are_figures(word):
        return int(word)
    if word.startswith("-") and word != "-0" and are_figures(word[1:]):
        return -int(word[1:])
    return word


def row_of(text):
    """The tuple of the things that stand in the text, parted by blanks."""
    return tuple([thing_of(word) for word in text.split(" ")])


def rows_of(text):
    """The tuple of the rows that stand in the text, parted by a comma and a blank, - for none."""
    return () if text == "-" else tuple([row_of(part) for part in text.split(", ")])


def page_of(text):
    """What the text tells if it is a page's; parting and joining change no sign, so it is written just so."""
    words = text.split(" ")
    if words[0] == "rule":
        return row_of(" ".join(words[:4])) + (rows_of(" ".join(words[4:])),)
    return row_of(text)


def read_page(hill, text):
    """The page of the hill that is just so written."""
    if not isinstance(text, str) or not is_page(hill, page_of(text)):
        raise NoText("no page of the hill is written so")
    return page_of(text)


def read_book(hill, text):
    """The book of the hill that is just so written."""
    if not isinstance(text, str):
        raise NoText("no book of the hill is written so")
    lines = text.split("\n") if text != "" else []
    book = tuple([read_page(hill, line) for line in lines])
    if not is_book(hill, book):
        raise NoText("no book of the hill is written so")
    return book
