"""Arriving: where a goer can be, how early, and by which ways."""

from homeslopes.hills import pace
from homeslopes.spanning import spans_within, stretches


def ways_to_go(hill, book, goer):
    """The list of pairs (way, spans) of the ways that the goer can go."""
    parts = stretches(hill, book)
    return [(way, spans_within(parts, way[0], hill[2])) for way in hill[0] if pace(way, goer) > 0]


def first_entry(pairs, t):
    """The first moment, t or later, within the spans pairs, None where there is none."""
    for a, b in pairs:
        if t < b:
            return max(a, t)
    return None


def reached(hill, book, goer, place, t):
    """A dict: to each place that a goer who is at place at t can be at the triple (moment, way, entered).

    The moment is the earliest, the way the last one gone and entered when this was; None and None at the
    first place. Whoever comes earlier may wait and do all that a later one does, so it is enough to look
    on from the earliest moments.
    """
    going = ways_to_go(hill, book, goer)
    came = {place: (t, None, None)}
    again = True
    while again:
        again = False
        for way, pairs in going:
            start, end = way[2], way[3]
            entered = first_entry(pairs, came[start][0]) if start in came else None
            if entered is not None:
                m = entered + pace(way, goer)
                if m <= hill[2] and (end not in came or m < came[end][0]):
                    came[end] = (m, way, entered)
                    again = True
    return came


def arrivals(hill, book, goer, place, t):
    """The rising tuple of pairs (place, earliest moment), of all places where a goer can be who is at place at t."""
    came = reached(hill, book, goer, place, t)
    return tuple(sorted([(spot, came[spot][0]) for spot in came]))


def walk(hill, book, goer, place, t, to):
    """The ways, with the moments at which they are entered, by which a goer is at to the earliest; None if never."""
    came = reached(hill, book, goer, place, t)
    if to not in came:
        return None
    steps = []
    spot = to
    while spot != place:
        m, way, entered = came[spot]
        steps.append((way[0], entered))
        spot = way[2]
    return tuple(reversed(steps))
