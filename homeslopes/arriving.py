"""Arriving: where a goer can be, how early, and by which ways."""

from homeslopes.hills import pace
from homeslopes.spanning import spans_within, stretches


def ways_to_go(hill, book, goer):
    """The list of rows (w, start, end, n, pairs) of the ways that the goer can go: n the pace, pairs the spans."""
    parts = stretches(hill, book)
    found = []
    for way in hill[0]:
        n = pace(way, goer)
        if n > 0:
            found.append((way[0], way[2], way[3], n, spans_within(parts, way[0], hill[2])))
    return found


def first_entry(pairs, t):
    """The first moment, t or later, within the spans pairs, None where there is none."""
    for a, b in pairs:
        if t < b:
            return max(a, t)
    return None


def reached(going, dark, place, t):
    """A dict: to each place that one who is at place at t can be at the triple (moment, step, start).

    The moment is the earliest, the step the last way gone and when it was entered, start where it starts; None
    and None at the first place. Whoever comes earlier may wait and do all that a later one does, so it is enough
    to look on from the earliest moments.
    """
    came = {place: (t, None, None)}
    again = True
    while again:
        again = False
        for w, start, end, n, pairs in going:
            entered = first_entry(pairs, came[start][0]) if start in came else None
            if entered is not None and entered + n <= dark:
                if end not in came or entered + n < came[end][0]:
                    came[end] = (entered + n, (w, entered), start)
                    again = True
    return came


def arrivals(hill, book, goer, place, t):
    """The rising tuple of pairs (place, earliest moment), of all places where a goer can be who is at place at t."""
    came = reached(ways_to_go(hill, book, goer), hill[2], place, t)
    return tuple(sorted([(spot, came[spot][0]) for spot in came]))


def walk(hill, book, goer, place, t, to):
    """The ways, with the moments at which they are entered, by which a goer is at to the earliest; None if never."""
    came = reached(ways_to_go(hill, book, goer), hill[2], place, t)
    if to not in came:
        return None
    steps = []
    spot = to
    while spot != place:
        m, step, start = came[spot]
        steps.append(step)
        spot = start
    return tuple(reversed(steps))
