"""Rows of roads, one behind the other, from place to place."""


def routes(origin, goal, roads):
    """The ascending tuple of all ways from the origin to the goal over these roads."""
    return tuple(routes_on(origin, goal, roads, origin, ()))


def routes_on(place, goal, roads, met, begun):
    """The list of the ways that begin so, lead to this place, and have met these places."""
    if place == goal:
        return [begun]
    found = []
    # Going on by ascending indexes makes the ways ascend: none is the beginning of another one.
    for index, road in enumerate(roads):
        if place in road[:2]:
            other = other_end(road, place)
            if other not in met:
                found.extend(routes_on(other, goal, roads, met + other, begun + (index,)))
    return found


def used_indexes(origin, goal, roads):
    """The ascending list of the indexes of the roads that lie on some way."""
    return sorted({index for way in routes(origin, goal, roads) for index in way})


def walked(place, roads, row):
    """The string of the places met from this one on along a row of indexes.

    None if some road of the row does not begin where the one ahead of it ends.
    """
    met = place
    for index in row:
        road = roads[index]
        if met[-1] not in road[:2]:
            return None
        met = met + other_end(road, met[-1])
    return met


def other_end(road, place):
    """The place to which a road leads from this one of its ends."""
    return road[1] if place == road[0] else road[0]


def all_unlike(places):
    """Whether a string has no place twice."""
    return len(set(places)) == len(places)
