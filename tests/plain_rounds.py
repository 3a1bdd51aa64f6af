"""Patrols told again by going through all ways and all choices, to compare the program with."""

import itertools

from tests.plain import between, rising


def pace(part):
    return min((n for n in part[4:6] if n != 0), default=None)


def trips(of, place, to, seen=()):
    """How long each way of going from place to the other one takes that comes to no place twice."""
    if place == to:
        yield 0
        return
    for part in of[0]:
        if part[2] == place and pace(part) is not None and part[3] not in seen and part[3] != place:
            for rest in trips(of, part[3], to, seen + (place,)):
                yield pace(part) + rest


def moves(of, place, to):
    return min(trips(of, place, to), default=None)


def follows(of, one, other):
    named = {part[0]: part for part in of[0]}
    first, second = named[one[0]], named[other[0]]
    rest = moves(of, first[3], second[2])
    return rest is not None and other[1] - one[1] >= pace(first) + rest


def order(of, looks):
    """The pairs of numbers of looks (one, other), the other one following the one."""
    numbers = range(len(looks))
    return {pair for pair in itertools.product(numbers, numbers) if follows(of, looks[pair[0]], looks[pair[1]])}


def fewest_rounds(of, looks):
    """How few rounds do, by all choices of a round for each look, the earlier looks first."""
    known = order(of, looks)
    numbers = sorted(range(len(looks)), key=lambda at: looks[at][1])

    def least(at, ends):
        if at == len(numbers):
            return len(ends)
        one = numbers[at]
        choices = [least(at + 1, ends + (one,))]
        for place, end in enumerate(ends):
            if (end, one) in known:
                choices.append(least(at + 1, ends[:place] + (one,) + ends[place + 1:]))
        return min(choices)

    return least(0, ())


def most_apart(of, looks):
    """How many looks can be told no two of which one patrol does, by all choices."""
    known = order(of, looks)
    numbers = range(len(looks))
    return max(
        many for many in range(len(looks) + 1)
        if any(not any(pair in known for pair in itertools.product(some, some))
               for some in itertools.combinations(numbers, many))
    )


def shows_fewest(of, looks, thing, known=None):
    known = order(of, looks) if known is None else known
    number = between(0, len(looks) - 1)
    if type(thing) is not tuple or len(thing) != 2:
        return False
    rounds, apart = thing
    if type(rounds) is not tuple or not all(type(part) is tuple and all(map(number, part)) for part in rounds):
        return False
    gone = [at for part in rounds for at in part]
    if len(gone) != len(looks) or not all(at in gone for at in range(len(looks))):
        return False
    if not all((one, other) in known for part in rounds for one, other in zip(part, part[1:])):
        return False
    if not rising(number, apart) or len(apart) != len(rounds):
        return False
    return not any(pair in known for pair in itertools.product(apart, apart))
