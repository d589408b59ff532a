"""Parts of webs that are put behind and beside one another.

A part is a triple (INDEXES, START, END): the ascending list of the indexes of its roads, and two
places; each of its roads lies on some way from the one to the other one over its roads.
"""

from closedroads.routes import routes, walked


def whole_part(web):
    """The whole of a web as a part."""
    return (list(range(len(web))), web.origin, web.goal)


def parts_beside(roads, part):
    """The list of the parts that are beside one another in a part, ascending; it alone if none are."""
    indexes, start, end = part
    bundles = []
    for index in indexes:
        bundle = [index]
        apart = []
        for other in bundles:
            if touch(roads, other, index, start + end):
                bundle = other + bundle
            else:
                apart.append(other)
        bundles = apart + [bundle]
    # As no index is in two of them, the lists ascend by their least indexes.
    return [(bundle, start, end) for bundle in sorted([sorted(bundle) for bundle in bundles])]


def touch(roads, indexes, index, ends):
    """Whether this road has a place in common with one of the others, but for these ends."""
    inner = [place for place in roads[index][:2] if place not in ends]
    return any([place in roads[other][:2] for place in inner for other in indexes])


def parts_behind(roads, part):
    """The list of the parts that are behind one another in a part, in order; it alone if none are."""
    indexes, start, end = part
    own = [roads[index] for index in indexes]
    lines = routes(start, end, own)
    trails = [walked(start, own, line) for line in lines]
    # All ways meet the places that all of them meet in the same order.
    stops = [place for place in trails[0] if all([place in trail for trail in trails])]
    found = []
    for begin, finish in zip(stops, stops[1:]):
        rows = [line[trail.index(begin):trail.index(finish)] for line, trail in zip(lines, trails)]
        between = sorted({at for row in rows for at in row})
        found.append(([indexes[at] for at in between], begin, finish))
    return found
