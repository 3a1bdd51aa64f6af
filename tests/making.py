"""Things to hand in: odd ones of every kind, things with one part exchanged, hills and books by a seed."""

import random

POSTS = ("wind", "snow", "eagle")
NAMES = ("eagle", "chair", "lane", "mouse", "hare", "gully", "ridge", "tow", "glade", "bowl", "spur", "draw")
SPOTS = ("home", "top", "hut", "pass", "gate")
UP = ("up", "lift", "home", "top", 0, 5)
DOWN = ("down", "slope", "top", "home", 9, 3)
LANE = ("lane", "path", "home", "hut", 4, 0)
STAIR = ("stair", "path", "hut", "top", 6, 8)
HILL = ((UP, DOWN, LANE, STAIR), "home", 30)
NEVER = (("never",),)


def hours(w, a, b, number=0):
    """A page by which the way w is open from a to b - 1."""
    return ("rule", number, 0, w, (("hours", a, b),))


class Angry:
    """An object that can't be compared, counted, walked or taken as a key."""

    def refuse(self, *things):
        raise RuntimeError("asked what it can't tell")

    __eq__ = __ne__ = __lt__ = __le__ = __gt__ = __ge__ = refuse
    __hash__ = __len__ = __bool__ = __iter__ = __getitem__ = __contains__ = __int__ = __index__ = refuse


def deep(wrap, depth=40):
    thing = wrap(None)
    for _ in range(depth - 1):
        thing = wrap(thing)
    return thing


def odd_things():
    """Things of every kind, wrong in most places, right in some."""
    return [
        None, True, False, 0, 1, -1, 2, 7, 12, 999999, 1000000, 1000001, 1000002, 10 ** 59, -10 ** 59, 10 ** 60 - 1,
        "", "a", "A", "z", "eagle", "chair", "home", "abcdefgh", "abcdefghi", "a b", "a1", "\u00e4", "a\n", "0", "1",
        "slope", "lift", "path", "hours", "never", "read", "look", "rule",
        b"", b"a", b"eagle", b"slope", bytearray(b"a"),
        (), [], {}, set(), frozenset(), ("a",), ["a"], {"a": 1}, {"a"}, ("never",), ["never"], (("never",),),
        (None,), ((),), [()], range(3), object(), int, len, Angry(), (Angry(),), Ellipsis,
        deep(lambda thing: [thing]), deep(lambda thing: (thing,)), deep(lambda thing: {"a": thing}),
        deep(lambda thing: ("rule", thing)),
    ]


def exchanged(thing):
    """The thing with one part, at whatever depth, exchanged, added, taken away or told by a list."""
    for odd in odd_things():
        yield odd
    if isinstance(thing, tuple):
        yield list(thing)
        yield thing[:-1]
        yield thing[1:]
        for odd in odd_things():
            yield thing + (odd,)
            yield (odd,) + thing
        for at, part in enumerate(thing):
            for other in exchanged(part):
                yield thing[:at] + (other,) + thing[at + 1:]


def some_way(chance, name, most):
    kind = chance.choice(("slope", "slope", "lift", "path"))
    paces = [chance.choice((0, chance.randint(1, most), chance.randint(1, 3))) for _ in range(2)]
    return (name, kind, chance.choice(SPOTS), chance.choice(SPOTS), paces[0], paces[1])


def some_hill(chance, dark, ways):
    return (tuple(some_way(chance, name, dark) for name in NAMES[:ways]), "home", dark)


def some_rule(chance, hill):
    dark = hill[2]
    word = chance.choice(("hours", "hours", "least", "most", "looked", "looked", "with", "with", "never"))
    if word == "hours":
        a = chance.randint(0, dark)
        return (word, a, chance.randint(a + 1, dark + 1))
    if word in ("least", "most"):
        return (word, chance.choice(POSTS), chance.randint(-2, 2))
    if word == "looked":
        return (word, chance.randint(1, dark))
    if word == "with":
        return (word, chance.choice(hill[0])[0])
    return (word,) if chance.random() < 0.2 else ("hours", 0, dark + 1)


def some_rules(chance, hill):
    many = chance.choice((0, 1, 1, 1, 2, 2, 3, 6))
    return tuple(some_rule(chance, hill) for _ in range(many))


def some_page(chance, hill, number):
    moment = chance.choice((0, hill[2], chance.randint(0, hill[2]), chance.randint(0, hill[2])))
    word = chance.choice(("read", "look", "rule", "rule"))
    slopes = [way[0] for way in hill[0] if way[1] == "slope"]
    if word == "look" and slopes:
        return (word, number, moment, chance.choice(slopes))
    if word == "rule":
        return (word, number, moment, chance.choice(hill[0])[0], some_rules(chance, hill))
    return ("read", number, moment, chance.choice(POSTS), chance.randint(-3, 3))


def some_pages(chance, hill, many):
    numbers = chance.sample(range(200), many)
    return [some_page(chance, hill, number) for number in numbers]


def some_cases(seed, many, most_dark=14, most_pages=14):
    """Tuples (chance, hill, pages) on small hills."""
    chance = random.Random(seed)
    for _ in range(many):
        hill = some_hill(chance, chance.randint(1, most_dark), chance.randint(1, 12))
        yield chance, hill, some_pages(chance, hill, chance.randint(0, most_pages))


def stretched(hill, pages, k):
    """The same day with each moment k times as long."""
    ways = tuple(way[:4] + (way[4] * k, way[5] * k) for way in hill[0])
    return (ways, hill[1], hill[2] * k), [stretched_page(page, k) for page in pages]


def stretched_page(page, k):
    moved = page[:2] + (page[2] * k,) + page[3:]
    if page[0] != "rule":
        return moved
    return moved[:4] + (tuple(stretched_rule(rule, k) for rule in page[4]),)


def stretched_rule(rule, k):
    if rule[0] == "hours":
        return ("hours", rule[1] * k, min(rule[2] * k, 1000001))
    if rule[0] == "looked":
        return ("looked", rule[1] * k)
    return rule


def some_busy_hill(chance, dark, ways, spots=3):
    """A hill of few places and quick ways, many of which lead home."""
    here = SPOTS[:spots]
    made = []
    for name in NAMES[:ways]:
        end = chance.choice(here + ("home",))
        paces = [chance.choice((0, 1, 1, 2, 2, 3, 4)) for _ in range(2)]
        made.append((name, chance.choice(("slope", "lift", "path")), chance.choice(here[1:]), end, paces[0], paces[1]))
    return (tuple(made), "home", dark)


def some_busy_cases(seed, many, most_dark=8, most_ways=6, most_pages=4):
    """Tuples (chance, hill, pages) on small busy hills, each with a part of its ways ruled."""
    chance = random.Random(seed)
    for _ in range(many):
        dark, ways, spots = chance.randint(2, most_dark), chance.randint(1, most_ways), chance.choice((2, 3, 4))
        hill = some_busy_hill(chance, dark, ways, spots)
        yield chance, hill, some_pages(chance, hill, chance.randint(0, most_pages))


def some_starts(chance, hill, many, spots):
    """Starts of a crowd, many of them alike or late."""
    starts = []
    for _ in range(many):
        late = max(0, hill[2] - chance.randint(0, 6))
        if starts and chance.random() < 0.6:
            starts.append(chance.choice(starts))
        else:
            starts.append((chance.choice(spots), chance.choice((late, late, late, chance.randint(0, hill[2])))))
    return tuple(starts)


def some_looks(chance, hill, many):
    """Looks at slopes that have a pace, some alike; none on a hill without such a slope."""
    slopes = [way[0] for way in hill[0] if way[1] == "slope" and way[4] + way[5] > 0]
    looks = []
    for _ in range(many if slopes else 0):
        if looks and chance.random() < 0.1:
            looks.append(chance.choice(looks))
        else:
            looks.append((chance.choice(slopes), chance.randint(0, hill[2])))
    return tuple(looks)


def some_hanging_rule(chance, hill, kind):
    """A rule that hangs on reads, looks or another way."""
    word = chance.choice(("least", "most", "with") + (("looked",) * 4 if kind == "slope" else ()))
    if word == "looked":
        return (word, chance.randint(1, hill[2]))
    if word == "with":
        return (word, chance.choice(hill[0])[0])
    return (word, chance.choice(POSTS), chance.randint(-2, 2))


def some_hanging_cases(seed, many, most_dark=12):
    """Tuples (chance, hill, pages): nearly each way has one rule from the first moment on, of reads, looks or ways."""
    chance = random.Random(seed)
    for _ in range(many):
        hill = some_hill(chance, chance.randint(2, most_dark), chance.randint(2, 7))
        pages = some_pages(chance, hill, chance.randint(0, 4))
        for at, (name, kind, *_) in enumerate(hill[0]):
            if chance.random() < 0.8:
                pages.append(("rule", 300 + at, 0, name, (some_hanging_rule(chance, hill, kind),)))
        yield chance, hill, pages
