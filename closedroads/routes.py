"""The ways over roads between two places, found before there is a web of these roads."""


def routes(origin, goal, roads):
    """The ascending tuple of all ways from the origin to the goal over these roads."""
    return tuple(routes_on(origin, goal, roads, origin, ()))


def routes_on(place, goal, roads, met, begun):
    """The list of the ways that begin so, lead to this place, and have met these places."""
    if place == goal:
        return [begun]
    found = []
    # Going on by ascending indexes makes the ways ascend: none is the beginning of another one.
    for index, road in enumerate(roads):
        if place in road[:2]:
            other = road[1] if place == road[0] else road[0]
            if other not in met:
                found.extend(routes_on(other, goal, roads, met + other, begun + (index,)))
    return found


def used_indexes(origin, goal, roads):
    """The ascending list of the indexes of the roads that lie on some way."""
    return sorted({index for way in routes(origin, goal, roads) for index in way})
