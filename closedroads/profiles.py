"""The profiles of made webs: what drivers pay, for all amounts of traffic at once.

The level of a made web rises ever more slowly: that of a single road rises straight, and what is put
behind or beside one another keeps this. So each point of a part changes the slope of the whole, too,
and a level that has ceased to rise never rises again.
"""

from closedroads.errors import InvalidAmount, InvalidNumber
from closedroads.parts import parts_behind, parts_beside, whole_part
from closedroads.pieces import is_made
from closedroads.ratios import ascending, is_fraction, is_less, minus, plus, quotient, summed, times
from closedroads.webs import need_web


def profile(web):
    """The profile of a made web, a pair of its points and its last slope; None for other webs."""
    if not is_made(web):
        return None
    return part_profile(web.roads, whole_part(web))


def level_at(points, slope, amount):
    """The level by a profile with any amount from 0 on, a fraction."""
    if not is_fraction(amount):
        raise InvalidAmount(amount)
    return height_at(points, slope, amount)


def amount_for(web, level):
    """The greatest amount whose level is at most this one, a fraction.

    None if there is none, if it is so for all amounts, and for webs that are not made.
    """
    endless = is_endless(web, level)
    if endless is None or endless:
        return None
    points, slope = profile(web)
    if is_less(level, points[0][1]):
        return None
    return amount_at(points, slope, level)


def is_endless(web, level):
    """Whether the level of a made web is at most this one for all amounts; None for other webs."""
    need_web(web)
    if not is_fraction(level):
        raise InvalidNumber(level)
    told = profile(web)
    if told is None:
        return None
    points, slope = told
    return slope == (0, 1) and not is_less(level, points[-1][1])


def part_profile(roads, part):
    """The profile of a part of a made web."""
    indexes = part[0]
    if len(indexes) == 1:
        base, rise = roads[indexes[0]][2:]
        return ((((0, 1), (base, 1)),), (rise, 1))
    parts = parts_beside(roads, part)
    if len(parts) > 1:
        return beside([part_profile(roads, inner) for inner in parts])
    return behind([part_profile(roads, inner) for inner in parts_behind(roads, part)])


def behind(profiles):
    """The profile of parts behind one another: at each amount their levels are added."""
    amounts = ascending([point[0] for points, _ in profiles for point in points])
    levels = [summed([height_at(points, slope, amount) for points, slope in profiles]) for amount in amounts]
    return (tuple(zip(amounts, levels)), summed([slope for _, slope in profiles]))


def beside(profiles):
    """The profile of parts beside one another: at each level their amounts are added."""
    levels = ascending([point[1] for points, _ in profiles for point in points])
    flats = [points[-1][1] for points, slope in profiles if slope == (0, 1)]
    # A part that is flat at its last level takes all that comes, so the whole goes no higher.
    levels = [level for level in levels if not any([is_less(flat, level) for flat in flats])]
    amounts = [summed([amount_at(points, slope, level) for points, slope in profiles]) for level in levels]
    last = (0, 1)
    if len(flats) == 0:
        last = inverse(summed([inverse(slope) for _, slope in profiles]))
    return (tuple(zip(amounts, levels)), last)


def height_at(points, slope, place):
    """How high a line through these points is at this place, from the first point on.

    The slope is that behind the last point; between two points the line is straight.
    """
    at = 0
    while at + 1 < len(points) and not is_less(place, points[at + 1][0]):
        at += 1
    start, height = points[at]
    if at + 1 == len(points):
        return plus(height, times(slope, minus(place, start)))
    end, higher = points[at + 1]
    climb = quotient(minus(higher, height), minus(end, start))
    return plus(height, times(climb, minus(place, start)))


def amount_at(points, slope, level):
    """The amount at which a profile comes to a level that it does not stay below; 0 below all."""
    if is_less(level, points[0][1]):
        return (0, 1)
    turned = [(height, amount) for amount, height in points]
    # A flat profile is asked for nothing above its last point, where any slope will do.
    return height_at(turned, slope if slope == (0, 1) else inverse(slope), level)


def inverse(fraction):
    """1 divided by a fraction above 0."""
    return quotient((1, 1), fraction)
