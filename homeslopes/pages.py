"""Pages: what posts read, which slopes were looked at, which rules a way has; and books of them."""

from homeslopes.hills import is_name, is_whole, is_within, way_named

MOST_HOUR = 1000001
MOST_LOOKED = 1000000
MOST_RULES = 6
MOST_NUMBER = 999999


def is_way_name(hill, thing):
    """Whether it is the name of a way of the hill, of anything."""
    return is_name(thing) and way_named(hill, thing) is not None


def is_slope_name(hill, thing):
    """Whether it is the name of a slope of the hill, of anything."""
    return is_way_name(hill, thing) and way_named(hill, thing)[1] == "slope"


def is_hours(a, b):
    """Whether these are the bounds of a rule of hours, of anything."""
    return is_within(a, 0, MOST_HOUR) and is_within(b, 0, MOST_HOUR) and a < b


def begins_with_text(thing):
    """Whether it is a tuple with a text ahead, of anything."""
    return isinstance(thing, tuple) and len(thing) > 0 and isinstance(thing[0], str)


def is_rule(hill, thing):
    """Whether it is a rule, of anything."""
    if not begins_with_text(thing):
        return False
    word = thing[0]
    if word == "hours":
        return len(thing) == 3 and is_hours(thing[1], thing[2])
    if word == "least" or word == "most":
        return len(thing) == 3 and is_name(thing[1]) and is_whole(thing[2])
    if word == "looked":
        return len(thing) == 2 and is_within(thing[1], 1, MOST_LOOKED)
    if word == "with":
        return len(thing) == 2 and is_way_name(hill, thing[1])
    return word == "never" and len(thing) == 1


def is_rules(hill, thing):
    """Whether these are the rules of a way, of anything."""
    if not isinstance(thing, tuple) or len(thing) > MOST_RULES:
        return False
    return all([is_rule(hill, rule) for rule in thing])


def is_page(hill, thing):
    """Whether it is a page of the hill, of anything."""
    if not begins_with_text(thing) or len(thing) < 4:
        return False
    if not is_within(thing[1], 0, MOST_NUMBER) or not is_within(thing[2], 0, hill[2]):
        return False
    word = thing[0]
    if word == "read":
        return len(thing) == 5 and is_name(thing[3]) and is_whole(thing[4])
    if word == "look":
        return len(thing) == 4 and is_slope_name(hill, thing[3])
    if word == "rule":
        return len(thing) == 5 and is_way_name(hill, thing[3]) and is_rules(hill, thing[4])
    return False


def book_of(pages):
    """The book of these pages, in whatever order they came."""
    return tuple(sorted(pages, key=lambda page: (page[2], page[1])))


def is_book(hill, thing):
    """Whether it is a book of the hill, of anything."""
    if not isinstance(thing, tuple) or not all([is_page(hill, page) for page in thing]):
        return False
    # Sorting leaves pages of one moment and number as they are, so like numbers are asked for by themselves.
    return thing == book_of(thing) and len({page[1] for page in thing}) == len(thing)
