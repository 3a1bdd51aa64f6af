"""The document told again, moment by moment and as plainly as can be, to compare the program with."""

import itertools


def whole(thing, low=None, high=None):
    return type(thing) is int and (low is None or low <= thing) and (high is None or thing <= high)


def name(thing):
    return type(thing) is str and len(thing) in range(1, 9) and set(thing) <= set("abcdefghijklmnopqrstuvwxyz")


def row(thing, *tests):
    return type(thing) is tuple and len(thing) == len(tests) and all(test(part) for test, part in zip(tests, thing))


def word(*texts):
    return lambda thing: type(thing) is str and thing in texts


def between(low, high):
    return lambda thing: whole(thing, low, high)


def way(thing):
    return row(thing, name, word("slope", "lift", "path"), name, name, between(0, 1000000), between(0, 1000000))


def ways(thing):
    if type(thing) is not tuple or len(thing) not in range(1, 13) or not all(way(part) for part in thing):
        return False
    return len({part[0] for part in thing}) == len(thing)


def hill(thing):
    return row(thing, ways, name, between(1, 1000000))


def rule(of, thing):
    names = word(*[part[0] for part in of[0]])
    return (
        row(thing, word("hours"), between(0, 1000001), between(0, 1000001)) and thing[1] < thing[2]
        or row(thing, word("least", "most"), name, whole)
        or row(thing, word("looked"), between(1, 1000000))
        or row(thing, word("with"), names)
        or row(thing, word("never"))
    )


def rules(of, thing):
    return type(thing) is tuple and len(thing) <= 6 and all(rule(of, part) for part in thing)


def page(of, thing):
    ahead = (between(0, 999999), between(0, of[2]))
    slopes = word(*[part[0] for part in of[0] if part[1] == "slope"])
    names = word(*[part[0] for part in of[0]])
    return (
        row(thing, word("read"), *ahead, name, whole)
        or row(thing, word("look"), *ahead, slopes)
        or row(thing, word("rule"), *ahead, names, lambda part: rules(of, part))
    )


def book(of, thing):
    if type(thing) is not tuple or not all(page(of, part) for part in thing):
        return False
    pairs = list(zip(thing, thing[1:]))
    rising = all((one[2], one[1]) < (other[2], other[1]) for one, other in pairs)
    return rising and len({part[1] for part in thing}) == len(thing)


def last(pages, kind, of, t):
    """The last page of the kind, whatever the order of the pages; None without one."""
    those = [part for part in pages if part[0] == kind and part[3] == of and part[2] <= t]
    return max(those, key=lambda part: (part[2], part[1]), default=None)


def rules_of(pages, w, t):
    found = last(pages, "rule", w, t)
    return found[4] if found else ()


def holds(of, pages, w, one, t, names):
    kinds = {part[0]: part[1] for part in of[0]}
    if one[0] == "hours":
        return one[1] <= t and t <= one[2] - 1
    if one[0] in ("least", "most"):
        read = last(pages, "read", one[1], t)
        return read is not None and (read[4] >= one[2] if one[0] == "least" else read[4] <= one[2])
    if one[0] == "looked":
        look = last(pages, "look", w, t)
        return kinds[w] == "slope" and look is not None and t - look[2] < one[1]
    return one[0] == "with" and one[1] in names


def opened(of, pages, t):
    names = set()
    while True:
        more = {
            part[0] for part in of[0]
            if all(holds(of, pages, part[0], one, t, names) for one in rules_of(pages, part[0], t))
        }
        if more == names:
            return tuple(part[0] for part in of[0] if part[0] in names)
        names = more


def why(of, pages, w, t):
    names = opened(of, pages, t)
    for at, one in enumerate(rules_of(pages, w, t)):
        if not holds(of, pages, w, one, t, names):
            return at
    return None


def day(of, pages):
    """The names open, moment by moment, from 0 to dark."""
    return [opened(of, pages, t) for t in range(of[2] + 1)]


def spans(days, w):
    found = []
    for t, names in enumerate(days):
        if w in names:
            if found and found[-1][1] == t:
                found[-1] = (found[-1][0], t + 1)
            else:
                found.append((t, t + 1))
    return tuple(found)


def outlook(of, pages, days, w, t):
    now = w in days[t]
    others = [m for m in range(t + 1, of[2] + 1) if (w in days[m]) != now]
    m = others[0] if others else None
    if now:
        return ("open", m, None if m is None else why(of, pages, w, m))
    return ("shut", why(of, pages, w, t), m)


def pace_of(part, goer):
    return {"walker": part[4], "rider": part[5]}[goer]


def arrivals(of, days, goer, place, t):
    """By going on from moment to moment with all places where the goer may be."""
    dark = of[2]
    here = [set() for _ in range(dark + 1)]
    here[t].add(place)
    for m in range(t, dark + 1):
        if m > t:
            here[m] |= here[m - 1]
        for part in of[0]:
            end = m + pace_of(part, goer)
            if part[2] in here[m] and end > m and end <= dark and part[0] in days[m]:
                here[end].add(part[3])
    spots = sorted(set().union(*here))
    return tuple((spot, min(m for m in range(t, dark + 1) if spot in here[m])) for spot in spots)


def end_of_walk(of, pages, goer, place, t, steps):
    """Where and when a goer is who does these steps; None where a step can't be done."""
    named = {part[0]: part for part in of[0]}
    for w, m in steps:
        part = named[w]
        if part[2] != place or m < t or pace_of(part, goer) == 0 or w not in opened(of, pages, m):
            return None
        place, t = part[3], m + pace_of(part, goer)
        if t > of[2]:
            return None
    return place, t


def spots_of(of):
    return sorted({of[1]} | {spot for part in of[0] for spot in part[2:4]})


def latest(of, days, goer):
    """By asking the arrivals of each place at each moment."""
    found = []
    for spot in spots_of(of):
        homing = [t for t in range(of[2] + 1) if of[1] in dict(arrivals(of, days, goer, spot, t))]
        if homing:
            found.append((spot, max(homing)))
    return tuple(found)


def departure(of, thing):
    return row(thing, word(*[part[0] for part in of[0]]), between(0, of[2]))


def shows_walk(of, pages, goer, place, t, to, m, thing):
    if type(thing) is not tuple or not all(departure(of, part) for part in thing):
        return False
    last = end_of_walk(of, pages, goer, place, t, thing)
    return last is not None and last[0] == to and last[1] <= m


def bar_keeps(of, days, goer, kept):
    """Whether nobody leaves the places of kept, moment by moment and way by way."""
    for part in of[0]:
        for m in range(kept.get(part[2], of[2] + 1), of[2] + 1):
            end = m + pace_of(part, goer)
            if end > m and part[0] in days[m] and end <= of[2]:
                if part[3] not in kept or kept[part[3]] > end:
                    return False
    return True


def shows_bar(of, days, goer, place, t, thing):
    others = word(*[spot for spot in spots_of(of) if spot != of[1]])
    if type(thing) is not tuple or not all(row(part, others, between(0, of[2])) for part in thing):
        return False
    spots = [part[0] for part in thing]
    if any(one >= other for one, other in zip(spots, spots[1:])):
        return False
    return any(spot == place and m <= t for spot, m in thing) and bar_keeps(of, days, goer, dict(thing))


class Game:
    """Shuttings gone through moment by moment: at each one ways may be shut, then the goer waits or enters one."""

    def __init__(self, of, days, goer):
        self.of, self.days, self.goer = of, days, goer
        self.known = {}

    def wins(self, place, t, shut, left):
        asked = (place, t, frozenset(shut), left)
        if asked not in self.known:
            self.known[asked] = self.wins_now(*asked)
        return self.known[asked]

    def wins_now(self, place, t, shut, left):
        if t > self.of[2] or place == self.of[1]:
            return t <= self.of[2]
        others = [part for part in self.of[0] if part[0] not in shut]
        if left > 0 and not all(self.wins(place, t, shut | {part[0]}, left - 1) for part in others):
            return False
        return self.wins(place, t + 1, shut, left) or any(
            self.wins(part[3], t + pace_of(part, self.goer), shut, left)
            for part in others
            if part[2] == place and part[0] in self.days[t] and pace_of(part, self.goer) > 0
        )

    def latest(self, shut, left):
        found = []
        for spot in spots_of(self.of):
            wins = [self.wins(spot, t, shut, left) for t in range(self.of[2] + 1)]
            if wins != sorted(wins, reverse=True):
                raise AssertionError("who is safe at a moment is so at each earlier one")
            if wins[0]:
                found.append((spot, sum(wins) - 1))
        return tuple(found)

    def rows(self, left):
        names = sorted(part[0] for part in self.of[0])
        tuples = [shut for many in range(left + 1) for shut in itertools.combinations(names, many)]
        return tuple((shut, self.latest(shut, left - len(shut))) for shut in tuples)


def crowd_walks(of, pages, goer, starts, walks):
    """Whether these are walks home, or None, of the starts, no two of which enter one way at one moment."""
    if type(walks) is not tuple or len(walks) != len(starts):
        return False
    for (place, t), steps in zip(starts, walks):
        if steps is not None and not shows_walk(of, pages, goer, place, t, of[1], of[2], steps):
            return False
    entered = [part for steps in walks if steps is not None for part in steps]
    return all(entered.count(part) == 1 for part in entered)


def crowd_cut(of, days, goer, starts, cut):
    """Whether nobody else comes home without the departures, each way letting in all."""
    number, going = between(0, len(starts) - 1), lambda part: departure(of, part)
    if not row(cut, lambda part: rising(number, part), lambda part: rising(going, part)):
        return False
    given, departures = cut
    fewer = [tuple(w for w in names if (w, m) not in departures) for m, names in enumerate(days)]
    others = [start for at, start in enumerate(starts) if at not in given]
    return not any(of[1] in dict(arrivals(of, fewer, goer, place, t)) for place, t in others)


def rising(test, thing):
    if type(thing) is not tuple or not all(test(part) for part in thing):
        return False
    return all(one < other for one, other in zip(thing, thing[1:]))


def shows_crowd(of, pages, days, goer, starts, thing):
    if type(thing) is not tuple or len(thing) != 2 or not crowd_walks(of, pages, goer, starts, thing[0]):
        return False
    if not crowd_cut(of, days, goer, starts, thing[1]):
        return False
    return len([steps for steps in thing[0] if steps is not None]) == len(thing[1][0]) + len(thing[1][1])


def walks_home(of, days, goer, place, t):
    """All walks home, as sets of departures, that go nowhere from home."""
    if place == of[1]:
        return [frozenset()]
    found = []
    for part in of[0]:
        for m in range(t, of[2] + 1):
            end = m + pace_of(part, goer)
            if part[2] == place and m < end <= of[2] and part[0] in days[m]:
                found += [more | {(part[0], m)} for more in walks_home(of, days, goer, part[3], end)]
    return found


def most_home(of, days, goer, starts):
    """How many of the starts come home at most, by all choices of walks."""
    choices = [walks_home(of, days, goer, place, t) for place, t in starts]
    choices = [[one for one in some if not any(other < one for other in some)] for some in choices]
    known = {}

    def most(at, entered):
        if at == len(choices):
            return 0
        if (at, entered) not in known:
            free = [one for one in choices[at] if not one & entered]
            known[(at, entered)] = max([most(at + 1, entered)] + [1 + most(at + 1, entered | one) for one in free])
        return known[(at, entered)]

    return most(0, frozenset())
