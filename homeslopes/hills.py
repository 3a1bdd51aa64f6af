"""Hills: ways from place to place, a home and a dark."""

KINDS = ("slope", "lift", "path")
MOST_PACE = 1000000
MOST_DARK = 1000000
MOST_WAYS = 12
MOST_LETTERS = 8


def is_whole(thing):
    """Whether it is a whole number, of anything."""
    return isinstance(thing, int) and not isinstance(thing, bool)


def is_within(thing, low, high):
    """Whether it is a whole number from low to high, of anything."""
    return is_whole(thing) and low <= thing <= high


def is_rising(things):
    """Whether the names, numbers or tuples of such rise, each once."""
    return list(things) == sorted(set(things))


def is_name(thing):
    """Whether it is a name, of anything."""
    if not isinstance(thing, str) or not 1 <= len(thing) <= MOST_LETTERS:
        return False
    return all(["a" <= sign <= "z" for sign in thing])


def is_kind(thing):
    """Whether it is the kind of a way, of anything."""
    return isinstance(thing, str) and thing in KINDS


def is_way(thing):
    """Whether it is a way, of anything."""
    if not isinstance(thing, tuple) or len(thing) != 6:
        return False
    name, kind, start, end, walk, ride = thing
    if not is_name(name) or not is_kind(kind):
        return False
    if not is_name(start) or not is_name(end):
        return False
    return is_within(walk, 0, MOST_PACE) and is_within(ride, 0, MOST_PACE)


def are_ways(thing):
    """Whether it is a tuple of ways such as a hill has, of anything."""
    if not isinstance(thing, tuple) or not 1 <= len(thing) <= MOST_WAYS:
        return False
    if not all([is_way(way) for way in thing]):
        return False
    return len({way[0] for way in thing}) == len(thing)


def is_hill(thing):
    """Whether it is a hill, of anything."""
    if not isinstance(thing, tuple) or len(thing) != 3:
        return False
    ways, home, dark = thing
    return are_ways(ways) and is_name(home) and is_within(dark, 1, MOST_DARK)


def places(hill):
    """The hill's places, rising."""
    ways, home, dark = hill
    found = [home]
    for way in ways:
        found.append(way[2])
        found.append(way[3])
    return tuple(sorted(set(found)))


def way_named(hill, name):
    """The way of this name, None where there is none."""
    for way in hill[0]:
        if way[0] == name:
            return way
    return None


def pace(way, goer):
    """How many moments the goer takes on the way, 0 where they can't go it."""
    return way[4] if goer == "walker" else way[5]
