"""Sights: what the book tells of a post or a way at a moment."""


def last_page(book, kind, name, t):
    """The last page of this kind, of this post or way, of the moment t or an earlier one; None without one."""
    found = None
    for page in book:
        if page[0] == kind and page[3] == name and page[2] <= t:
            found = page
    return found


def reading(book, post, t):
    """What the post reads at t, None where it reads nothing."""
    page = last_page(book, "read", post, t)
    return None if page is None else page[4]


def rules_at(book, w, t):
    """The rules that the way w has at t."""
    page = last_page(book, "rule", w, t)
    return () if page is None else page[4]


def looked_at(book, w, t):
    """The moment at which the way w was looked at last, seen from t; None where it wasn't."""
    page = last_page(book, "look", w, t)
    return None if page is None else page[2]
