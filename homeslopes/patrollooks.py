"""Looks at patrols: whether rounds and looks apart show how few patrols do all looks."""

from homeslopes.crowdlooks import are_numbers
from homeslopes.hills import is_whole
from homeslopes.patrols import follows


def are_rounds(hill, looks, thing):
    """Whether these are rounds with each look in one, each next one following the one ahead, of anything."""
    if not isinstance(thing, tuple) or not all([isinstance(part, tuple) for part in thing]):
        return False
    numbers = [number for part in thing for number in part]
    if not all([is_whole(number) for number in numbers]) or sorted(numbers) != list(range(len(looks))):
        return False
    pairs = [pair for part in thing for pair in zip(part, part[1:])]
    return all([follows(hill, looks[one], looks[other]) for one, other in pairs])


def are_apart(hill, looks, thing):
    """Whether it is a rising tuple of numbers of looks, none of which follows another, of anything."""
    if not are_numbers(len(looks), thing):
        return False
    return not any([follows(hill, looks[one], looks[other]) for one in thing for other in thing])


def shows_fewest(hill, looks, thing):
    """Whether it is a pair of rounds and as many looks apart, by which no fewer patrols do all looks, of anything."""
    if not isinstance(thing, tuple) or len(thing) != 2:
        return False
    rounds, apart = thing
    return are_rounds(hill, looks, rounds) and are_apart(hill, looks, apart) and len(rounds) == len(apart)
