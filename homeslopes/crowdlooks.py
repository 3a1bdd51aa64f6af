"""Looks at crowds: whether walks and a cut show how many come home, and that no more can."""

from homeslopes.arriving import reached, ways_to_go
from homeslopes.hills import is_rising, is_within
from homeslopes.walklooks import is_departure, is_walk


def are_walks(hill, going, starts, thing):
    """Whether it has for each start a walk home or None, no two by one departure, of anything."""
    if not isinstance(thing, tuple) or len(thing) != len(starts):
        return False
    departures = []
    for (place, t), steps in zip(starts, thing):
        if steps is not None:
            if not is_walk(hill, going, place, t, hill[1], hill[2], steps):
                return False
            departures.extend(steps)
    return len(set(departures)) == len(departures)


def are_numbers(many, thing):
    """Whether it is a rising tuple of numbers of as many starts, from 0, of anything."""
    if not isinstance(thing, tuple) or not all([is_within(part, 0, many - 1) for part in thing]):
        return False
    return is_rising(thing)


def are_departures(hill, thing):
    """Whether it is a rising tuple of departures, of anything."""
    if not isinstance(thing, tuple) or not all([is_departure(hill, part) for part in thing]):
        return False
    return is_rising(thing)


def without(pairs, m):
    """The spans pairs without the moment m."""
    found = []
    for a, b in pairs:
        parts = [(a, m), (m + 1, b)] if a <= m < b else [(a, b)]
        found.extend([(low, high) for low, high in parts if low < high])
    return found


def going_without(going, departures):
    """The rows of ways to go with no way entered as departures have it."""
    found = []
    for w, start, end, n, pairs in going:
        kept = pairs
        for name, m in departures:
            if name == w:
                kept = without(kept, m)
        found.append((w, start, end, n, kept))
    return found


def is_cut(hill, going, starts, many, thing):
    """Whether it is a cut of so many starts and departures, without which nobody comes home, of anything."""
    if not isinstance(thing, tuple) or len(thing) != 2:
        return False
    given, departures = thing
    if not are_numbers(len(starts), given) or not are_departures(hill, departures):
        return False
    if len(given) + len(departures) != many:
        return False
    kept = going_without(going, departures)
    for number, (place, t) in enumerate(starts):
        if number not in given:
            came = reached(kept, hill[2], place, t)
            if hill[1] in came and came[hill[1]][0] <= hill[2]:
                return False
    return True


def shows_crowd(hill, book, goer, starts, thing):
    """Whether it is a pair of walks and a cut by which no more of the crowd can come home, of anything."""
    if not isinstance(thing, tuple) or len(thing) != 2:
        return False
    walks, cut = thing
    going = ways_to_go(hill, book, goer)
    if not are_walks(hill, going, starts, walks):
        return False
    many = len([steps for steps in walks if steps is not None])
    return is_cut(hill, going, starts, many, cut)
