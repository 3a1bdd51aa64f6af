"""Crowds: as many as can be come home, where a way lets in one at a time.

A spot is a pair (place, moment). Links lead from spot to spot, by waiting a moment or by a way; used tells of each
link, by its number, how many go it. As many as can be are brought home by searching, start by start, a way through
links with room, or back along used ones, whose goers then go on by another link.
"""

from homeslopes.arriving import ways_to_go
from homeslopes.errors import TooLong
from homeslopes.hills import places

MOST_DARK_OF_CROWDS = 60


def links_of(hill, going):
    """The list of links (spot, next spot, departure): departure is the pair (w, m), None where one waits.

    Some lead to spots behind dark, where they end.
    """
    links = [((place, m), (place, m + 1), None) for place in places(hill) for m in range(hill[2])]
    for w, start, end, n, pairs in going:
        for a, b in pairs:
            links.extend([((start, m), (end, m + n), (w, m)) for m in range(a, b)])
    return links


def around_of(links):
    """A dict: to each spot the list of its links (number, other spot, change): 1 leads there, -1 comes from there."""
    around = {}
    for number, (spot, other, departure) in enumerate(links):
        around.setdefault(spot, []).append((number, other, 1))
        around.setdefault(other, []).append((number, spot, -1))
    return around


def has_room(links, used, number, change):
    """Whether one more may go the link, or where change is -1 whether one may be taken back from it."""
    if change < 0:
        return used[number] > 0
    return links[number][2] is None or used[number] == 0


def searched(links, around, used, spot):
    """A dict: to each spot to which one more can come from spot the triple (number, change, spot ahead).

    The number is that of the link that leads there from the spot ahead; None at spot itself.
    """
    came = {spot: None}
    row = [spot]
    at = 0
    while at < len(row):
        here = row[at]
        at += 1
        for number, other, change in around.get(here, []):
            if other not in came and has_room(links, used, number, change):
                came[other] = (number, change, here)
                row.append(other)
    return came


def first_home(hill, came):
    """The first spot of came that is home by dark, None where there is none."""
    for spot in came:
        if spot[0] == hill[1] and spot[1] <= hill[2]:
            return spot
    return None


def use(used, came, spot):
    """Count one more on the links by which came leads to spot, one less on those gone back."""
    while came[spot] is not None:
        number, change, ahead = came[spot]
        used[number] += change
        spot = ahead


def taken_walk(hill, links, around, used, spot):
    """The walk home of one who starts at spot, along used links, taken out of used."""
    steps = []
    while spot[0] != hill[1]:
        number, other, change = [link for link in around[spot] if link[2] > 0 and used[link[0]] > 0][0]
        used[number] -= 1
        if links[number][2] is not None:
            steps.append(links[number][2])
        spot = other
    return tuple(steps)


def bring_home(hill, links, around, used, starts):
    """The pair (coming, lost): the list that tells of each start whether it comes home by used, and a dict of spots.

    These are the spots to which one more could come from a start that doesn't come home. Nothing leads home from
    them any more, so that nobody who is brought home later comes through them.
    """
    coming = []
    lost = {}
    for start in starts:
        came = searched(links, around, used, start)
        end = first_home(hill, came)
        coming.append(end is not None)
        if end is None:
            lost.update(came)
        else:
            use(used, came, end)
    return (coming, lost)


def cut_of(links, starts, lost):
    """The pair (given, departures): the starts that aren't lost, and the departures that lead out of what is lost.

    Waiting leads to no other spots than lost ones, as there is always room for it.
    """
    given = [number for number, start in enumerate(starts) if start not in lost]
    departures = [departure for spot, other, departure in links if spot in lost and other not in lost]
    return (tuple(given), tuple(sorted(departures)))


def crowd(hill, book, goer, starts):
    """(walks, cut): as many walks home as can be, None for the other starts, and what shows that no more can be."""
    if hill[2] > MOST_DARK_OF_CROWDS:
        raise TooLong("dark is too late for a crowd")
    links = links_of(hill, ways_to_go(hill, book, goer))
    around = around_of(links)
    used = [0 for link in links]
    coming, lost = bring_home(hill, links, around, used, starts)
    walks = []
    for start, comes in zip(starts, coming):
        walks.append(taken_walk(hill, links, around, used, start) if comes else None)
    return (tuple(walks), cut_of(links, starts, lost))
