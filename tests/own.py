"""Searches and sums of the tests' own, straight by the words of the document."""

from fractions import Fraction
from itertools import combinations

from closedroads.steady import steady_loads
from closedroads.webs import Web


def ordered(roads, indexes, start, end):
    """These roads as a row from place to place that meets no place twice; None if they are none."""
    ends = [place for index in indexes for place in roads[index][:2]]
    if len(set(ends)) != len(indexes) + 1 or start == end:
        return None
    row, place, left = [], start, list(indexes)
    while left:
        going = [index for index in left if place in roads[index][:2]]
        if len(going) != 1:
            return None
        x, y = roads[going[0]][:2]
        place = y if place == x else x
        row.append(going[0])
        left.remove(going[0])
    return tuple(row) if place == end else None


def own_rows(roads, start, end):
    """All rows of roads from place to place, ascending, found by trying all sets of roads."""
    found = []
    for many in range(1, len(roads) + 1):
        for indexes in combinations(range(len(roads)), many):
            row = ordered(roads, indexes, start, end)
            if row is not None:
                found.append(row)
    return sorted(found)


# Trying all sets of roads takes long, and many tests ask for the same of the same web.
TRIED_WAYS, TRIED_CROSSINGS = {}, {}


def ends_of(web):
    return (web.origin, web.goal) + tuple([road[:2] for road in web.roads])


def own_ways(web):
    ends = ends_of(web)
    if ends not in TRIED_WAYS:
        TRIED_WAYS[ends] = tuple(own_rows(web.roads, web.origin, web.goal))
    return TRIED_WAYS[ends]


def own_places(web, row, start=None):
    """The string of the places along a row of roads."""
    met = web.origin if start is None else start
    for index in row:
        ends = list(web.roads[index][:2])
        ends.remove(met[-1])
        met += ends[0]
    return met


def own_loads(web, loads):
    """What each road carries, a list of Fractions."""
    return [sum([Fraction(top, bottom) for way, top, bottom in loads if index in way], Fraction(0))
            for index in range(len(web))]


def own_costs(web, loads):
    """What each road costs, a list of Fractions."""
    return [road[2] + road[3] * load for road, load in zip(web.roads, own_loads(web, loads))]


def own_price(web, loads, way):
    costs = own_costs(web, loads)
    return sum([costs[index] for index in way], Fraction(0))


def own_excess(web, loads):
    least = min([own_price(web, loads, way) for way in own_ways(web)])
    return max([own_price(web, loads, load[0]) for load in loads]) - least


def own_amount(loads):
    return sum([Fraction(top, bottom) for _, top, bottom in loads], Fraction(0))


def pair(number):
    """A Fraction or an integer as a pair."""
    number = Fraction(number)
    return (number.numerator, number.denominator)


def pairs(numbers):
    return tuple([pair(number) for number in numbers])


def own_is_made(web):
    """Whether roads beside and behind one another can be put together until one is left."""
    links = [tuple(sorted(road[:2])) for road in web.roads]
    while True:
        links = sorted(set(links))
        inner = set("".join(map("".join, links))) - {web.origin, web.goal}
        bent = [place for place in sorted(inner) if sum(place in link for link in links) == 2]
        if not bent:
            return len(links) == 1
        touching = [link for link in links if bent[0] in link]
        joined = "".join(map("".join, touching)).replace(bent[0], "")
        links = [link for link in links if link not in touching] + [tuple(sorted(joined))]


def own_crossings(web):
    """All crossing pieces, found by trying all corners and rows."""
    ends = ends_of(web)
    if ends not in TRIED_CROSSINGS:
        TRIED_CROSSINGS[ends] = tried_crossings(web)
    return TRIED_CROSSINGS[ends]


def tried_crossings(web):
    found = []
    rows = {(x, y): own_rows(web.roads, x, y) for x in web.places for y in web.places}
    for x in web.places:
        rows[x, x] = [()]
    for s in web.places:
        for u in web.places:
            for v in web.places:
                for t in web.places:
                    if len({s, u, v, t}) == 4:
                        found.extend(pieces_between(web, rows, s, u, v, t))
    return found


def pieces_between(web, rows, s, u, v, t):
    """The crossing pieces with these corners."""
    # For each of the seven rows its ends, and which of its places no other row joins.
    legs = (
        (web.origin, s, slice(0, -1)), (s, u, slice(1, -1)), (s, v, slice(1, -1)), (u, v, slice(1, -1)),
        (u, t, slice(1, -1)), (v, t, slice(1, -1)), (t, web.goal, slice(1, None)),
    )
    begun = [((), s + u + v + t)]
    for start, end, own in legs:
        longer = [(rest + (row,), met + own_places(web, row, start)[own])
                  for rest, met in begun for row in rows[start, end]]
        begun = [(rest, met) for rest, met in longer if len(set(met)) == len(met)]
    return [rest for rest, _ in begun]


class Doubled:
    """What these sums need of a web, with each B twice as great, beyond the limit of B if need be."""

    def __init__(self, web):
        self.origin = web.origin
        self.goal = web.goal
        self.roads = tuple([(x, y, base, 2 * rise) for x, y, base, rise in web.roads])

    def __len__(self):
        return len(self.roads)


def own_total(web, loads):
    """What all drivers pay together, way by way."""
    return sum([Fraction(top, bottom) * own_price(web, loads, way) for way, top, bottom in loads], Fraction(0))


def level_shown(web, loads, amount):
    """The level that loads show; they have to be steady and to carry the amount."""
    if own_excess(web, loads) != 0 or own_amount(loads) != Fraction(*amount):
        raise AssertionError("no steady loads with this amount")
    return own_price(web, loads, loads[0][0])


# The level of a web with an amount is one alone, so it need not be worked out twice.
KNOWN = {}


def own_level(web, amount):
    """The level of a web, a Fraction, as steady loads show it by sums of the tests' own."""
    key = (str(web), amount)
    if key not in KNOWN:
        KNOWN[key] = level_shown(web, steady_loads(web, amount), amount)
    return KNOWN[key]


def own_closed(web, indexes):
    """The web without these roads, by its ways that are left; None if none is."""
    left = [way for way in own_ways(web) if not set(way) & set(indexes)]
    kept = sorted({index for way in left for index in way})
    return Web(web.origin, web.goal, tuple([web.roads[index] for index in kept])) if kept else None


def own_level_closed(web, indexes, amount):
    """The level without these roads, a Fraction; None if no way is left."""
    fewer = own_closed(web, indexes)
    return None if fewer is None else own_level(fewer, amount)


def own_helping(web, amount):
    """The indexes of all roads whose closing makes the level less."""
    levels = [own_level_closed(web, (index,), amount) for index in range(len(web))]
    now = own_level(web, amount)
    return tuple([index for index, level in enumerate(levels) if level is not None and level < now])


def own_waste(web, amount):
    """The waste, a Fraction, by steady and best loads whose being so these sums have shown."""
    best = steady_loads(web, amount, 2)
    level_shown(Doubled(web), best, amount)
    now, least = own_level(web, amount) * Fraction(*amount), own_total(web, best)
    return Fraction(1) if now == least == 0 else now / least
