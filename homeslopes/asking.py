"""Asking: what an asking must hold, each refused by an error of its own, of anything."""

from homeslopes.errors import NoGoer, NoMoment, NoNumber, NoPlace, NoWay
from homeslopes.hills import is_name, is_within, places, way_named
from homeslopes.pages import is_slope_name, is_way_name
from homeslopes.patrols import patrol_pace
from homeslopes.spanning import outlook

GOERS = ("walker", "rider")
MOST_LEFT = 2


def need_goer(thing):
    """Refuse what is no goer."""
    if not isinstance(thing, str) or thing not in GOERS:
        raise NoGoer("a goer is a walker or a rider")


def need_place(hill, thing):
    """Refuse what is no place of the hill."""
    if not is_name(thing) or thing not in places(hill):
        raise NoPlace("this is no place of the hill")


def need_moment(hill, thing):
    """Refuse what is no moment of the hill."""
    if not is_within(thing, 0, hill[2]):
        raise NoMoment("a moment is a whole number from 0 to dark")


def need_left(thing):
    """Refuse what isn't as many shuttings as may be let in."""
    if not is_within(thing, 0, MOST_LEFT):
        raise NoNumber("from 0 to 2 shuttings may be let in")


def need_way(hill, thing):
    """Refuse what is no name of a way of the hill."""
    if not is_way_name(hill, thing):
        raise NoWay("this is no way of the hill")


def asked_outlook(hill, book, w, t):
    """The outlook, refused where w is no way or t no moment."""
    need_way(hill, w)
    need_moment(hill, t)
    return outlook(hill, book, w, t)


def need_look(hill, thing):
    """Refuse what is no name of a slope that a patrol can look at."""
    if not is_slope_name(hill, thing) or patrol_pace(way_named(hill, thing)) == 0:
        raise NoWay("this is no slope that has a pace")
