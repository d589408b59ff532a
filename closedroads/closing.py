"""What becomes of the level if roads are closed, or if one of them costs more."""

from itertools import combinations

from closedroads.errors import InvalidCost, InvalidNumber, NoWay
from closedroads.limits import MOST_CLOSED, MOST_COST
from closedroads.ratios import is_less
from closedroads.steady import level_of, need_amount
from closedroads.values import is_whole
from closedroads.webs import need_index, need_web


def level_without(web, index, amount):
    """The level if this road is closed, a fraction; None if no way is left then."""
    need_web(web)
    need_index(web, index)
    need_amount(amount)
    return level_closed(web, (index,), amount)


def levels_without(web, amount):
    """The tuple of the levels without each of the roads; None where no way is left."""
    need_web(web)
    need_amount(amount)
    return tuple([level_closed(web, (index,), amount) for index in range(len(web))])


def helping(web, amount):
    """The ascending tuple of the indexes of all roads whose closing alone makes the level less."""
    need_web(web)
    need_amount(amount)
    return helping_at(web, amount)


def level_raised(web, index, amount, by):
    """The level if A of this road is greater by this number, a fraction."""
    need_web(web)
    need_index(web, index)
    need_amount(amount)
    base, rise = web.roads[index][2:]
    if not is_whole(by, MOST_COST - base):
        raise InvalidCost(by)
    return level_of(web.costing(index, base + by, rise), amount)


def raising_helps(web, index, amount, by):
    """Whether the level is less if A of this road is greater by this number."""
    raised = level_raised(web, index, amount, by)
    return is_less(raised, level_of(web, amount))


def best_closing(web, amount, most):
    """The least level that comes of closing at most so many roads, and the lots that bring it.

    These are all lots of as few roads as can be, ascending.
    """
    need_web(web)
    need_amount(amount)
    if not is_whole(most, MOST_CLOSED):
        raise InvalidNumber(most)
    least = level_of(web, amount)
    lots = [()]
    for many in range(1, most + 1):
        for lot in combinations(range(len(web)), many):
            fewer = level_closed(web, lot, amount)
            if fewer is not None and is_less(fewer, least):
                least = fewer
                lots = [lot]
            elif fewer == least and len(lots[0]) == many:
                lots.append(lot)
    return (least, tuple(lots))


def level_closed(web, indexes, amount):
    """The level without these roads with any fraction above 0; None if no way is left."""
    try:
        fewer = web.closed(indexes)
    except NoWay:
        return None
    return level_of(fewer, amount)


def helping_at(web, amount):
    """What `helping` returns, with any fraction above 0 as amount."""
    now = level_of(web, amount)
    found = []
    for index in range(len(web)):
        fewer = level_closed(web, (index,), amount)
        if fewer is not None and is_less(fewer, now):
            found.append(index)
    return tuple(found)
