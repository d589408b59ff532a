"""What all drivers pay together, loads with which that is least, and the tolls that bring them."""

from closedroads.loads import cost_sums, load_sums, need_loads, spread
from closedroads.ratios import lowest, quotient
from closedroads.steady import need_amount, steady_loads
from closedroads.webs import need_web


def total(web, loads):
    """The total of loads, a fraction."""
    need_web(web)
    need_loads(web, loads)
    return total_of(web, loads)


def best_loads(web, amount):
    """Best loads with this amount."""
    need_web(web)
    need_amount(amount)
    # The best loads are the steady ones where each B counts twice.
    return steady_loads(web, amount, 2)


def least_total(web, amount):
    """The total of the best loads with this amount, a fraction."""
    return total_of(web, best_loads(web, amount))


def tolls(web, amount):
    """The tuple of the tolls of all roads, fractions, with which the best loads are steady."""
    sums, bottom = load_sums(web, best_loads(web, amount))
    return tuple([lowest(road[3] * top, bottom) for road, top in zip(web.roads, sums)])


def waste(web, amount):
    """The total of steady loads divided by the least one, a fraction; 1 if both are 0."""
    least = least_total(web, amount)
    # The total of steady loads is at most 4/3 of the least one, so then it is 0, too.
    if least == (0, 1):
        return (1, 1)
    return quotient(total_of(web, steady_loads(web, amount)), least)


def are_best(web, loads):
    """Whether loads have the least total of all loads with their amount."""
    need_web(web)
    need_loads(web, loads)
    sums, _ = cost_sums(web, loads, 2)
    return spread(web, loads, sums) == 0


def total_of(web, loads):
    """The total of loads that are right, a fraction."""
    # Road by road: what all on it pay for it, over all roads.
    tops, bottom = load_sums(web, loads)
    prices, _ = cost_sums(web, loads)
    return lowest(sum([top * price for top, price in zip(tops, prices)]), bottom * bottom)
