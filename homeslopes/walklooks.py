"""Looks at walks: whether a goer comes by them where they are to lead."""

from homeslopes.arriving import first_entry, ways_to_go
from homeslopes.hills import is_within
from homeslopes.pages import is_way_name


def is_departure(hill, thing):
    """Whether it is a pair of the name of a way of the hill and a moment, of anything."""
    if not isinstance(thing, tuple) or len(thing) != 2:
        return False
    return is_way_name(hill, thing[0]) and is_within(thing[1], 0, hill[2])


def led_to(going, dark, place, t, steps):
    """The pair (place, moment) to which the steps lead one who is at place at t, None where one can't be done."""
    rows = {row[0]: row for row in going}
    for w, entered in steps:
        if w not in rows or entered < t:
            return None
        name, start, end, n, pairs = rows[w]
        if start != place or first_entry(pairs, entered) != entered or entered + n > dark:
            return None
        place, t = end, entered + n
    return (place, t)


def is_walk(hill, going, place, t, to, m, thing):
    """Whether it is a walk of the ways going from place at t by which one is at to at m or earlier, of anything."""
    if not isinstance(thing, tuple) or not all([is_departure(hill, part) for part in thing]):
        return False
    last = led_to(going, hill[2], place, t, thing)
    return last is not None and last[0] == to and last[1] <= m


def shows_walk(hill, book, goer, place, t, to, m, thing):
    """Whether it is a walk by which a goer who is at place at t is at to at m or earlier, of anything."""
    return is_walk(hill, ways_to_go(hill, book, goer), place, t, to, m, thing)
