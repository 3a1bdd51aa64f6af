"""Spanning: from when to when a way is open, and when this changes next."""

from homeslopes.opening import open_ways, why_shut


def rule_turns(book, w, rule):
    """The moments at which the rule of the way w may begin or end to hold with no page of that moment."""
    if rule[0] == "hours":
        return [rule[1], rule[2]]
    if rule[0] == "looked":
        return [page[2] + rule[1] for page in book if page[0] == "look" and page[3] == w]
    return []


def turns(hill, book):
    """The rising list of the moments at which ways may be opened or shut, 0 ahead.

    From each of them to the next one nothing changes, so that no other moments need be looked at.
    """
    found = [0]
    for page in book:
        found.append(page[2])
        if page[0] == "rule":
            for rule in page[4]:
                found.extend(rule_turns(book, page[3], rule))
    return sorted({m for m in found if 0 <= m <= hill[2]})


def stretches(hill, book):
    """The list of pairs (moment, names): just these ways are open from the moment to the next pair's."""
    return [(m, open_ways(hill, book, m)) for m in turns(hill, book)]


def spans_within(parts, w, dark):
    """The spans of the way w, of the stretches parts of a hill with this dark."""
    found = []
    begun = None
    for m, names in parts:
        if w in names and begun is None:
            begun = m
        if w not in names and begun is not None:
            found.append((begun, m))
            begun = None
    if begun is not None:
        found.append((begun, dark + 1))
    return tuple(found)


def spans(hill, book, w):
    """The rising tuple of pairs (a, b): the way w is open from a to b - 1, and neither ahead nor behind."""
    return spans_within(stretches(hill, book), w, hill[2])


def outlook(hill, book, w, t):
    """("open", m, r) or ("shut", r, m): how the way w is at t, by which rule, and when it is otherwise."""
    now = why_shut(hill, book, w, t)
    for m in turns(hill, book):
        if m > t:
            then = why_shut(hill, book, w, m)
            if now is None and then is not None:
                return ("open", m, then)
            if now is not None and then is None:
                return ("shut", now, m)
    return ("open", None, None) if now is None else ("shut", now, None)
