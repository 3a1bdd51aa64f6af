"""What a page touches and how far it reaches, told again moment by moment and word by word."""

from tests import plain


def touched(of, pages, page):
    one, other = plain.day(of, pages), plain.day(of, list(pages) + [page])
    found = []
    for w in sorted(part[0] for part in of[0]):
        begun = None
        for t in range(of[2] + 2):
            differs = t <= of[2] and (w in one[t]) != (w in other[t])
            if differs and begun is None:
                begun = t
            if not differs and begun is not None:
                found.append((w, begun, t))
                begun = None
    return tuple(found)


def end_of_reach(of, pages, page):
    behind = [part for part in pages if part[2] > page[2] or part[2] == page[2] and part[1] > page[1]]
    return min([part[2] for part in behind if (part[0], part[3]) == (page[0], page[3])], default=of[2] + 1)


def rules_told(pages, w):
    return [one for part in pages if part[0] == "rule" and part[3] == w for one in part[4]]


def reach(of, pages, page):
    names = [part[0] for part in of[0]]
    if page[0] == "read":
        found = {w for w in names for one in rules_told(pages, w) if one[0] in ("least", "most") and one[1] == page[3]}
    elif page[0] == "look":
        found = {w for w in names for one in rules_told(pages, w) if one[0] == "looked" and w == page[3]}
    else:
        found = {page[3]}
    for _ in names:
        asked = [(w, one) for w in names for one in rules_told(list(pages) + [page], w)]
        found |= {w for w, one in asked if one[0] == "with" and one[1] in found}
    return (tuple(sorted(found)), page[2], end_of_reach(of, pages, page))
