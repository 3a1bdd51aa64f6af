"""Opening: which ways are open at a moment, and which rule shuts a way."""

from homeslopes.hills import way_named
from homeslopes.sights import looked_at, reading, rules_at


def post_holds(book, rule, t):
    """Whether the rule of a post, ("least", ..) or ("most", ..), holds at t."""
    word, post, n = rule
    value = reading(book, post, t)
    if value is None:
        return False
    return value >= n if word == "least" else value <= n


def look_holds(book, way, n, t):
    """Whether ("looked", n) of the way holds at t."""
    m = looked_at(book, way[0], t)
    return way[1] == "slope" and m is not None and t < m + n


def holds_alone(book, way, rule, t):
    """Whether the way's rule, one that hangs on no other way, holds at t."""
    word = rule[0]
    if word == "hours":
        return rule[1] <= t < rule[2]
    if word == "least" or word == "most":
        return post_holds(book, rule, t)
    if word == "looked":
        return look_holds(book, way, rule[1], t)
    return False


def others_asked(book, way, t):
    """The names of the ways with which the way is open at t, None where its other rules shut it already."""
    rules = rules_at(book, way[0], t)
    if not all([holds_alone(book, way, rule, t) for rule in rules if rule[0] != "with"]):
        return None
    return [rule[1] for rule in rules if rule[0] == "with"]


def found_open(asked):
    """A dict with the names found open, none being taken to be open at first.

    asked gives to each name the names of the ways with which it is open.
    """
    found = {}
    before = -1
    while before < len(found):
        before = len(found)
        for name in asked:
            if all([other in found for other in asked[name]]):
                found[name] = True
    return found


def open_ways(hill, book, t):
    """The names of the ways open at t, in the hill's order."""
    asked = {}
    for way in hill[0]:
        others = others_asked(book, way, t)
        if others is not None:
            asked[way[0]] = others
    found = found_open(asked)
    return tuple([way[0] for way in hill[0] if way[0] in found])


def why_shut(hill, book, w, t):
    """The number of the first rule of the way w that doesn't hold at t, None where it is open."""
    way = way_named(hill, w)
    names = open_ways(hill, book, t)
    for at, rule in enumerate(rules_at(book, w, t)):
        holds = rule[1] in names if rule[0] == "with" else holds_alone(book, way, rule, t)
        if not holds:
            return at
    return None
