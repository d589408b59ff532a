"""The ways of a web, and the check of an argument that is one."""

from closedroads.errors import InvalidWay
from closedroads.routes import all_unlike, routes, walked
from closedroads.values import is_row
from closedroads.webs import need_index, need_web


def ways(web):
    """The ascending tuple of all ways."""
    need_web(web)
    return routes(web.origin, web.goal, web.roads)


def ways_over(web, index):
    """The ascending tuple of the ways on which a road lies."""
    need_web(web)
    need_index(web, index)
    return tuple([way for way in ways(web) if index in way])


def places_on(web, way):
    """The string of the places of a way, from the origin to the goal."""
    need_web(web)
    need_way(web, way)
    return walked(web.origin, web.roads, way)


def cost_without(web, way):
    """What a way costs without any traffic, an integer."""
    need_web(web)
    need_way(web, way)
    return sum([web.roads[index][2] for index in way])


def need_way(web, way):
    """Raises InvalidWay for what is no way of the web."""
    if not is_way(web, way):
        raise InvalidWay(way)


def is_way(web, value):
    """Whether any value is a way of the web."""
    if not is_row(value, len(web)):
        return False
    met = walked(web.origin, web.roads, value)
    return met is not None and met[-1] == web.goal and all_unlike(met)
