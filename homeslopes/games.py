"""Games: how late one is safe at a place, whatever ways, no more than are let in, are shut for good."""

from homeslopes.arriving import ways_to_go
from homeslopes.homing import homeward, unbound


def with_one_more(names, shut):
    """The list of the rising tuples of the names shut already and one more."""
    return [tuple(sorted(shut + (name,))) for name in names if name not in shut]


def with_more(hill, shut, left):
    """The list of the rising tuples of the names shut and at most left more, by how many, then as tuples sort."""
    names = [way[0] for way in hill[0]]
    found = [shut]
    last = [shut]
    for count in range(left):
        last = sorted({more for some in last for more in with_one_more(names, some)})
        found.extend(last)
    return found


def bounds_with(hill, tables):
    """A dict: to each place the latest moment told in all tables, none where one of them tells of none."""
    bounds = unbound(hill)
    for table in tables:
        bounds = {place: min(bounds[place], table[place]) for place in bounds if place in table}
    return bounds


def safe_tables(hill, going, shut, left):
    """A dict: to each tuple of with_more a dict of the latest moments at which one is safe where just these are shut.

    Those with more names are reckoned first: whoever is to enter a way at a moment must be safe at its start then
    also if any one more is shut. A way shut earlier, while they wait or go, is shut no worse then.
    """
    tables = {}
    names = [way[0] for way in hill[0]]
    for some in reversed(with_more(hill, shut, left)):
        still = [row for row in going if row[0] not in some]
        further = [tables[more] for more in with_one_more(names, some) if more in tables]
        tables[some] = homeward(hill, still, bounds_with(hill, further))
    return tables


def safe(hill, book, goer, left):
    """The tuple of rows (shut, pairs): the latest moments at which a goer is safe where these are shut already."""
    tables = safe_tables(hill, ways_to_go(hill, book, goer), (), left)
    return tuple([(shut, tuple(sorted(tables[shut].items()))) for shut in with_more(hill, (), left)])
