"""How webs are made behind and beside, and the crossing pieces of those that are not."""

from itertools import combinations

from closedroads.limits import MOST_COST
from closedroads.parts import parts_behind, parts_beside, whole_part
from closedroads.routes import all_unlike, routes_on, walked
from closedroads.values import is_row
from closedroads.ways import ways
from closedroads.webs import Web, need_web


def is_made(web):
    """Whether a web is made by putting webs behind and beside one another."""
    return making(web) is not None


def making(web):
    """How a web is made, a string; None if it is not."""
    need_web(web)
    return written(web.roads, whole_part(web))


def written(roads, part):
    """How a part of a web is made, a string; None if it is not."""
    if len(part[0]) == 1:
        return str(part[0][0])
    brackets = "[]"
    parts = parts_beside(roads, part)
    if len(parts) == 1:
        brackets = "()"
        parts = parts_behind(roads, part)
    if len(parts) == 1:
        return None
    texts = [written(roads, inner) for inner in parts]
    if None in texts:
        return None
    return brackets[0] + " ".join(texts) + brackets[1]


def crossing(web):
    """A crossing piece; None if there is none."""
    need_web(web)
    pieces = crossings(web)
    return pieces[0] if len(pieces) > 0 else None


def middles(web):
    """The ascending tuple of the indexes of all roads that are in C of some crossing piece."""
    need_web(web)
    return tuple(sorted({index for piece in crossings(web) for index in piece[3]}))


def is_crossing(web, piece):
    """Whether any value is a crossing piece of a web."""
    need_web(web)
    if type(piece) is not tuple or len(piece) != 7:
        return False
    if not all([is_row(row, len(web)) for row in piece]):
        return False
    lead, a, b, c, d, e, tail = piece
    met = walked(web.origin, web.roads, lead + a + c + e + tail)
    if met is None or met[-1] != web.goal or () in (a, c, e):
        return False
    s, u = met[len(lead)], met[len(lead + a)]
    v, t = met[len(lead + a + c)], met[len(lead + a + c + e)]
    over = walked(s, web.roads, b)
    under = walked(u, web.roads, d)
    if over is None or under is None or over[-1] != v or under[-1] != t:
        return False
    return all_unlike(met + over[1:-1] + under[1:-1])


def worst_costs(web):
    """The web with costs with which closing a road helps, and the index of this road.

    None for a made web.
    """
    piece = crossing(web)
    if piece is None:
        return None
    a, b, c, d, e = piece[1:6]
    told = {index: (0, 0) for row in piece for index in row}
    told[a[0]] = told[e[0]] = (0, 10)
    told[b[0]] = told[d[0]] = (50, 1)
    told[c[0]] = (10, 1)
    roads = [road[:2] + told.get(index, (MOST_COST, 0)) for index, road in enumerate(web.roads)]
    return (Web(web.origin, web.goal, tuple(roads)), c[0])


def crossings(web):
    """The list of all crossing pieces."""
    found = []
    for way in ways(web):
        met = walked(web.origin, web.roads, way)
        for corners in combinations(range(len(met)), 4):
            found.extend(crossings_on(web.roads, way, met, corners))
    return found


def crossings_on(roads, way, met, corners):
    """The crossing pieces whose LEAD, A, C, E and TAIL are this way, parted at these corners."""
    s, u, v, t = corners
    found = []
    for b in detours(roads, met[s], met[v], met):
        taken = met + walked(met[s], roads, b)
        for d in detours(roads, met[u], met[t], taken):
            found.append((way[:s], way[s:u], b, way[u:v], d, way[v:t], way[t:]))
    return found


def detours(roads, start, end, taken):
    """The rows of roads from place to place on which no other place is one of those taken."""
    return routes_on(start, end, roads, taken.replace(end, ""), ())
