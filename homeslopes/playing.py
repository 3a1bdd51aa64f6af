"""Playing: which step keeps one safe, and which shutting keeps one from home who isn't."""

from homeslopes.arriving import first_entry, ways_to_go
from homeslopes.games import bounds_of, safe_tables
from homeslopes.hills import pace, way_named
from homeslopes.homing import last_homeward


def step(hill, book, goer, left, shut, place, t):
    """(w, m): which way a goer who is safe at place at t is to enter, and when; None at home, and of one who isn't."""
    going = ways_to_go(hill, book, goer)
    tables = safe_tables(hill, going, shut, left)
    last = tables[shut]
    if place == hill[1] or place not in last or last[place] < t:
        return None
    bounds = bounds_of(hill, tables, shut)
    here = [row for row in going if row[0] not in shut and row[1] == place]
    # The way that may be entered last of all leads to where one may be later still, so nobody goes in rings.
    best = [row for row in here if last_homeward(row, last, bounds) == last[place]][0]
    return (best[0], first_entry(best[4], t))


def shutting(hill, book, goer, left, shut, place, t, w, m):
    """Whether w is to be shut ahead of a goer who isn't safe at place at t and would enter it at m, else let them go.

    It is shut where they would be safe at its end. Then they are not safe at place with w shut: else they were safe
    there as it is, by meaning to enter w at m, which they still could whichever other ways are shut.
    """
    last = safe_tables(hill, ways_to_go(hill, book, goer), shut, left)[shut]
    way = way_named(hill, w)
    return left > 0 and way[3] in last and m + pace(way, goer) <= last[way[3]]
