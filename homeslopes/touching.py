"""Touching: which ways a page opens or shuts, and how far it reaches."""

from homeslopes.opening import open_ways
from homeslopes.pages import book_of
from homeslopes.spanning import spans_within, turns


def touched(hill, book, page):
    """The rising tuple of (w, a, b): from a to b - 1 the way w is open by the book or by the book with the page.

    Not by both, and neither ahead nor behind.
    """
    more = book_of(book + (page,))
    parts = []
    # The page takes no turn away, so the turns with it are enough for both books.
    for m in turns(hill, more):
        parts.append((m, sorted(set(open_ways(hill, book, m)) ^ set(open_ways(hill, more, m)))))
    found = [(way[0], a, b) for way in hill[0] for a, b in spans_within(parts, way[0], hill[2])]
    return tuple(sorted(found))


def next_moment(hill, book, page):
    """The moment of the next page behind this one that tells of the same, dark + 1 where there is none."""
    for other in book:
        if other[0] == page[0] and other[3] == page[3] and (other[2], other[1]) > (page[2], page[1]):
            return other[2]
    return hill[2] + 1


def ruled(book):
    """The list of pairs (w, rule) of all pages ("rule", ..) of the book."""
    return [(page[3], rule) for page in book if page[0] == "rule" for rule in page[4]]


def hang_straight(pairs, page):
    """The list of the ways that hang on the page themselves; pairs as ruled tells them."""
    word, name = page[0], page[3]
    if word == "read":
        return [w for w, rule in pairs if rule[0] in ("least", "most") and rule[1] == name]
    if word == "look":
        return [w for w, rule in pairs if rule[0] == "looked" and w == name]
    return [name]


def hanging(book, page):
    """The rising tuple of the ways that hang on the page, themselves or by others with which they are open."""
    # The rules of the page itself needn't be asked: they are the ruled way's, which hangs on it anyway.
    pairs = ruled(book)
    found = {w: True for w in hang_straight(pairs, page)}
    before = -1
    while before < len(found):
        before = len(found)
        for w, rule in pairs:
            if rule[0] == "with" and rule[1] in found:
                found[w] = True
    return tuple(sorted(found))


def reach(hill, book, page):
    """(ways, a, b): which ways, from a to b - 1, may be opened or shut by the page, or shut by another rule."""
    return (hanging(book, page), page[2], next_moment(hill, book, page))
