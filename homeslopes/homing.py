"""Homing: from where, and how late, a goer still comes home, and what bars them from it."""

from homeslopes.arriving import arrivals, ways_to_go
from homeslopes.hills import places


def last_entry(pairs, t):
    """The last moment, t or earlier, within the spans pairs, None where there is none."""
    found = None
    for a, b in pairs:
        if a <= t:
            found = min(b - 1, t)
    return found


def last_homeward(row, last, bounds):
    """The last moment at which the way of the row may be entered to come home, None where there is none.

    last gives to places the latest moment at which one there comes home, bounds to places that behind which no
    way may be entered there; None too where one of them has no such moment.
    """
    w, start, end, n, pairs = row
    if end not in last or start not in bounds:
        return None
    return last_entry(pairs, min(last[end] - n, bounds[start]))


def homeward(hill, going, bounds):
    """A dict: to each place from which one comes home by the ways going the latest moment to be there for it.

    Whoever is there earlier may wait, so it is enough to look back from the latest moments.
    """
    last = {hill[1]: hill[2]}
    again = True
    while again:
        again = False
        for row in going:
            m = last_homeward(row, last, bounds)
            if m is not None and (row[1] not in last or last[row[1]] < m):
                last[row[1]] = m
                again = True
    return last


def unbound(hill):
    """The bounds of one who may enter ways till dark."""
    return {place: hill[2] for place in places(hill)}


def latest(hill, book, goer):
    """The rising tuple of pairs (place, latest moment from which a goer can be home by dark)."""
    last = homeward(hill, ways_to_go(hill, book, goer), unbound(hill))
    return tuple(sorted(last.items()))


def bar(hill, book, goer, place, t):
    """None where a goer can come home from place at t, else pairs (place, moment) that keep them from home."""
    # Nobody comes from a place later than the earliest moment to another one ahead of that one's, so the
    # earliest moments keep them in wherever home isn't among the places.
    told = arrivals(hill, book, goer, place, t)
    return None if hill[1] in dict(told) else told
