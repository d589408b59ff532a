"""Steady loads of a web with an amount, the level, and the cheapest ways."""

from closedroads.balance import balanced
from closedroads.errors import InvalidAmount
from closedroads.limits import MOST_AMOUNT, MOST_PART
from closedroads.loads import cost_sums, sum_over
from closedroads.ratios import is_fraction, lowest
from closedroads.ways import ways
from closedroads.webs import need_web


def steady(web, amount):
    """Steady loads with this amount."""
    need_web(web)
    need_amount(amount)
    return steady_loads(web, amount)


def level(web, amount):
    """What each driver pays in steady loads with this amount, a fraction."""
    need_web(web)
    need_amount(amount)
    return level_of(web, amount)


def costs(web, amount):
    """The tuple of what the roads cost in steady loads with this amount, fractions."""
    need_web(web)
    need_amount(amount)
    sums, bottom = steady_costs(web, amount)
    return tuple([lowest(top, bottom) for top in sums])


def cheapest(web, amount):
    """The ascending tuple of the ways that cost just the level."""
    need_web(web)
    need_amount(amount)
    sums, _ = steady_costs(web, amount)
    least = min([sum_over(sums, way) for way in ways(web)])
    return tuple([way for way in ways(web) if sum_over(sums, way) == least])


def cheap_roads(web, amount):
    """The ascending tuple of the indexes of all roads on cheapest ways."""
    return tuple(sorted({index for way in cheapest(web, amount) for index in way}))


def need_amount(amount):
    """Raises InvalidAmount for what is no fraction within the limits of amounts."""
    if not is_fraction(amount):
        raise InvalidAmount(amount)
    top, bottom = amount
    if top == 0 or top > MOST_AMOUNT or bottom > MOST_PART:
        raise InvalidAmount(amount)


def steady_loads(web, amount, times=1):
    """Steady loads with this amount, which may be any fraction above 0.

    They are steady if each B is so many times as great.
    """
    bases = [road[2] for road in web.roads]
    rises = [times * road[3] for road in web.roads]
    return balanced(ways(web), bases, rises, amount)


def level_of(web, amount):
    """The level with this amount, which may be any fraction above 0."""
    sums, bottom = steady_costs(web, amount)
    return lowest(min([sum_over(sums, way) for way in ways(web)]), bottom)


def steady_costs(web, amount):
    """The list of the numerators of what all roads cost then, and their common denominator."""
    return cost_sums(web, steady_loads(web, amount))
