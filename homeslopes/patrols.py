"""Patrols: how they move, and how few of them do all looks."""

from homeslopes.arriving import reached
from homeslopes.hills import way_named


def patrol_pace(way):
    """How many moments a patrol takes on the way, 0 where it can't go it."""
    return min([n for n in way[4:] if n > 0], default=0)


def moves(hill, place, to):
    """The fewest moments that a patrol takes from place to the other one, None where it can't."""
    # To a patrol all ways are open and it is never dark: no way is gone twice, so all paces together are enough.
    end = sum([patrol_pace(way) for way in hill[0]])
    going = [(way[0], way[2], way[3], patrol_pace(way), ((0, end),)) for way in hill[0] if patrol_pace(way) > 0]
    came = reached(going, end, place, 0)
    return came[to][0] if to in came else None


def follows(hill, one, other):
    """Whether the patrol that did the look one can do the other behind it."""
    way = way_named(hill, one[0])
    between = moves(hill, way[3], way_named(hill, other[0])[2])
    return between is not None and one[1] + patrol_pace(way) + between <= other[1]


def finds_next(after, ahead, one, asked):
    """Whether a next look is found for the look one, where need be by finding another next one for others.

    after tells of each look which ones follow it, ahead of those that have one which is ahead; what is found is put
    into ahead. Looks that were asked already, and are now, are in asked.
    """
    for other in after[one]:
        if other not in asked:
            asked[other] = True
            if other not in ahead or finds_next(after, ahead, ahead[other], asked):
                ahead[other] = one
                return True
    return False


def round_from(behind, first):
    """The tuple of the look first, its next one, that one's, and so on."""
    numbers = [first]
    while numbers[-1] in behind:
        numbers.append(behind[numbers[-1]])
    return tuple(numbers)


def fewest(hill, looks):
    """(rounds, apart): as few rounds as can be that have all looks, and as many looks no two of which are in one.

    Whatever follows a look that follows another one follows this one, too. So the fewest rounds are those with the
    most looks that have a next one. What is asked in vain, for a look that gets none, gets no other look ahead later.
    """
    numbers = list(range(len(looks)))
    after = [[at for at in numbers if follows(hill, one, looks[at])] for one in looks]
    ahead = {}
    lost = {}
    last = []
    for one in numbers:
        asked = {}
        if not finds_next(after, ahead, one, asked):
            last.append(one)
            lost.update(asked)
    behind = {ahead[other]: other for other in ahead}
    rounds = [round_from(behind, one) for one in numbers if one not in ahead]
    apart = [one for one in last + [ahead[other] for other in lost] if one not in lost]
    return (tuple(rounds), tuple(sorted(apart)))


def needed(n, a, b):
    """The moments of the fewest looks, each as late as can be, by which ("looked", n) holds from a to b - 1."""
    return tuple(range(a, b, n))
