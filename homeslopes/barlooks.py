"""Looks at bars: whether places and moments keep a goer from home."""

from homeslopes.arriving import first_entry, ways_to_go
from homeslopes.hills import is_name, is_rising, is_within, places


def is_barred_place(hill, thing):
    """Whether it is a pair of a place of the hill, but home, and a moment, of anything."""
    if not isinstance(thing, tuple) or len(thing) != 2 or not is_name(thing[0]):
        return False
    return thing[0] in places(hill) and thing[0] != hill[1] and is_within(thing[1], 0, hill[2])


def keep_in(going, dark, bounds):
    """Whether each one who is at a place of bounds at its moment or later only comes to such, or nowhere by dark."""
    for w, start, end, n, pairs in going:
        entered = first_entry(pairs, bounds[start]) if start in bounds else None
        # Whoever enters the way later is at its end later, so the first moment tells of all.
        if entered is not None and entered + n <= dark:
            if end not in bounds or entered + n < bounds[end]:
                return False
    return True


def shows_bar(hill, book, goer, place, t, thing):
    """Whether it is a bar that keeps a goer who is at place at t from home, of anything."""
    if not isinstance(thing, tuple) or not all([is_barred_place(hill, part) for part in thing]):
        return False
    bounds = dict(thing)
    if not is_rising([spot for spot, m in thing]) or place not in bounds or bounds[place] > t:
        return False
    return keep_in(ways_to_go(hill, book, goer), hill[2], bounds)
