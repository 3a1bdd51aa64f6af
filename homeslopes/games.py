"""Games: how late one is safe at a place, whatever ways, no more than are let in, are shut for good."""

from homeslopes.arriving import ways_to_go
from homeslopes.homing import homeward, unbound


def with_one_more(hill, shut):
    """The list of the rising tuples of the names shut already and one more."""
    return [tuple(sorted(shut + (way[0],))) for way in hill[0] if way[0] not in shut]


def with_more(hill, shut, left):
    """The list of the rising tuples of the names shut and at most left more, by how many, then as tuples sort."""
    found = [shut]
    last = [shut]
    for count in range(left):
        last = sorted({more for some in last for more in with_one_more(hill, some)})
        found.extend(last)
    return found


def bounds_of(hill, tables, shut):
    """A dict: to each place the latest moment at which one there is safe whichever one way more is shut.

    Till dark where the tables tell of no more shut ones; no moment of places where one is safe at none.
    """
    bounds = unbound(hill)
    for more in with_one_more(hill, shut):
        if more in tables:
            table = tables[more]
            bounds = {place: min(bounds[place], table[place]) for place in bounds if place in table}
    return bounds


def safe_tables(hill, going, shut, left):
    """A dict: to each tuple of with_more a dict of the latest moments at which one is safe where just these are shut.

    Those with more names are reckoned first: whoever is to enter a way at a moment must be safe at its start then
    also if any one more is shut. A way shut earlier, while they wait or go, is shut no worse then.
    """
    tables = {}
    for some in reversed(with_more(hill, shut, left)):
        still = [row for row in going if row[0] not in some]
        tables[some] = homeward(hill, still, bounds_of(hill, tables, some))
    return tables


def safe(hill, book, goer, left):
    """The tuple of rows (shut, pairs): the latest moments at which a goer is safe where these are shut already."""
    tables = safe_tables(hill, ways_to_go(hill, book, goer), (), left)
    return tuple([(shut, tuple(sorted(tables[shut].items()))) for shut in with_more(hill, (), left)])
