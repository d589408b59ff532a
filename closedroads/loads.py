"""Loads of the ways of a web, what roads and ways cost under them, and the check of loads."""

from math import lcm

from closedroads.errors import InvalidLoads
from closedroads.ratios import are_fraction, lowest
from closedroads.ways import is_way, need_way, ways
from closedroads.webs import need_web


def carried(web, loads):
    """The amount that loads carry, a fraction."""
    need_web(web)
    need_loads(web, loads)
    tops, bottom = evened(loads)
    return lowest(sum(tops), bottom)


def road_loads(web, loads):
    """The tuple of the loads of all roads, fractions."""
    need_web(web)
    need_loads(web, loads)
    sums, bottom = load_sums(web, loads)
    return tuple([lowest(top, bottom) for top in sums])


def road_costs(web, loads):
    """The tuple of what all roads cost under these loads, fractions."""
    need_web(web)
    need_loads(web, loads)
    sums, bottom = cost_sums(web, loads)
    return tuple([lowest(top, bottom) for top in sums])


def way_cost(web, loads, way):
    """What a way costs under these loads, a fraction."""
    need_web(web)
    need_loads(web, loads)
    need_way(web, way)
    sums, bottom = cost_sums(web, loads)
    return lowest(sum_over(sums, way), bottom)


def is_steady(web, loads):
    """Whether loads are steady."""
    return excess(web, loads) == (0, 1)


def excess(web, loads):
    """The greatest cost of one of their ways less the least cost of any way, a fraction."""
    need_web(web)
    need_loads(web, loads)
    sums, bottom = cost_sums(web, loads)
    return lowest(spread(web, loads, sums), bottom)


def need_loads(web, loads):
    """Raises InvalidLoads for what are no loads of the web."""
    if type(loads) is not tuple or len(loads) == 0:
        raise InvalidLoads(None)
    # Every way is greater than the empty tuple.
    last = ()
    for index, load in enumerate(loads):
        # If the ways ascend, so do the triples, and no way stands there twice.
        if not is_load(web, load) or load[0] <= last:
            raise InvalidLoads(index)
        last = load[0]


def is_load(web, value):
    """Whether any value is a triple of a way of the web and of a fraction above 0."""
    if type(value) is not tuple or len(value) != 3:
        return False
    way, top, bottom = value
    return is_way(web, way) and are_fraction(top, bottom) and top > 0


def evened(loads):
    """The list of the numerators of all loads over their least common denominator, and this."""
    common = 1
    for load in loads:
        common = lcm(common, load[2])
    return [load[1] * (common // load[2]) for load in loads], common


def load_sums(web, loads):
    """The list of the numerators of the loads of all roads, and their common denominator."""
    tops, bottom = evened(loads)
    sums = [0] * len(web)
    for load, top in zip(loads, tops):
        for index in load[0]:
            sums[index] += top
    return sums, bottom


def cost_sums(web, loads, times=1):
    """The list of the numerators of what all roads cost, and their common denominator.

    It is told as if each B were so many times as great.
    """
    sums, bottom = load_sums(web, loads)
    return [road[2] * bottom + times * road[3] * top for road, top in zip(web.roads, sums)], bottom


def spread(web, loads, sums):
    """The greatest of the sums over the ways of loads less the least one over any way."""
    greatest = max([sum_over(sums, load[0]) for load in loads])
    return greatest - min([sum_over(sums, way) for way in ways(web)])


def sum_over(sums, way):
    """The sum of these numbers of the roads, over the roads of a way."""
    return sum([sums[index] for index in way])
