"""Wishes for a web with an amount: what they are, and whether they hold."""

from closedroads.closing import helping
from closedroads.limits import MOST_ROADS
from closedroads.pieces import is_made
from closedroads.ratios import are_fraction, is_less
from closedroads.steady import cheap_roads, level
from closedroads.totals import waste
from closedroads.values import is_whole


def is_wish(value):
    """Whether any value is a wish."""
    if type(value) is not tuple or len(value) == 0 or type(value[0]) is not str:
        return False
    word, rest = value[0], value[1:]
    if word in ("made", "calm"):
        return len(rest) == 0
    if word == "cheap":
        return len(rest) == 1 and is_whole(rest[0], MOST_ROADS - 1)
    return word in ("most", "least", "waste") and len(rest) == 2 and are_fraction(rest[0], rest[1])


def is_kept(wish, web, amount):
    """Whether a wish holds for a web with an amount."""
    word, rest = wish[0], wish[1:]
    if word == "made":
        return is_made(web)
    if word == "calm":
        return helping(web, amount) == ()
    if word == "cheap":
        return rest[0] in cheap_roads(web, amount)
    if word == "waste":
        return not is_less(rest, waste(web, amount))
    if word == "most":
        return not is_less(rest, level(web, amount))
    return not is_less(level(web, amount), rest)


def first_broken(wishes, web, amount):
    """The index of the first of the wishes that does not hold; None if all hold."""
    for index, wish in enumerate(wishes):
        if not is_kept(wish, web, amount):
            return index
    return None
