"""Steady loads, found exactly by taking up cheap ways one after the other.

At each time some ways are held; their loads are the ones with which all of them cost the same.
As long as another way costs less, it is taken up, and ways whose load comes to 0 are left. Each
time the sum of A x + B x x / 2 over all roads becomes less, so no choice of ways held comes twice.
"""

from closedroads.equations import solved
from closedroads.ratios import lowest


def balanced(lines, bases, rises, amount):
    """Steady loads with this amount, a fraction above 0, on these ways, which are all there are.

    A road costs its base and, for each unit on it, its rise, integers from 0 on.
    """
    whole, part = amount
    # Loads are counted in units of one part, in which the amount is whole.
    alone = [part * sum([bases[index] for index in line]) for line in lines]
    joint = [[rise_together(rises, line, other) for other in lines] for line in lines]
    shares, divisor = shared(alone, joint, whole)
    return tuple([(lines[at],) + lowest(shares[at], divisor * part) for at in sorted(shares)])


def rise_together(rises, line, other):
    """By how much each unit on the other way raises the cost of this one."""
    return sum([rises[index] for index in line if index in other])


def shared(alone, joint, whole):
    """The steady shares of the whole: a dict by ways, all above 0, and what they are divided by."""
    shares = {}
    divisor = 1
    fresh = alone.index(min(alone))
    while fresh is not None:
        shares[fresh] = 0
        shares, divisor = settled(alone, joint, whole, shares, divisor)
        fresh = cheaper(alone, joint, shares, divisor)
    return shares, divisor


def cheaper(alone, joint, shares, divisor):
    """The first cheapest way if it costs less than those with shares do; otherwise None."""
    prices = []
    for at, row in enumerate(joint):
        rise = sum([row[other] * share for other, share in shares.items()])
        prices.append(alone[at] * divisor + rise)
    least = min(prices)
    if least == max([prices[at] for at in shares]):
        return None
    return prices.index(least)


def settled(alone, joint, whole, shares, divisor):
    """Shares with which ways cost the same: these ways without some that come to 0.

    All ways have a share above 0 but perhaps the last one, which then costs less than the others;
    and among all shares of the others only one lot costs the same.
    """
    while True:
        held = list(shares)
        found, scale = solved(same_costs(alone, joint, whole, held))
        aim = found[1:]
        if min(aim) >= 0:
            return {at: share for at, share in zip(held, aim) if share > 0}, scale
        # With the scale 0 the aim is no lot of shares, but a push that changes the cost of no way.
        push = [share * divisor - shares[at] * scale for at, share in zip(held, aim)]
        shares, divisor = pushed(shares, divisor, dict(zip(held, push)))


def same_costs(alone, joint, whole, held):
    """The equations for what all held ways cost, and for their shares of the whole."""
    rows = [[-1] + [joint[at][other] for other in held] + [-alone[at]] for at in held]
    return rows + [[0] + [1] * len(held) + [whole]]


def pushed(shares, divisor, push):
    """The shares moved along a push until the first of them comes to 0, without those at 0."""
    stop, slope = 0, 0
    for at, share in shares.items():
        # The quotients share / -push are compared, the least one counts.
        if push[at] < 0 and (slope == 0 or share * slope < -push[at] * stop):
            stop, slope = share, -push[at]
    moved = {at: share * slope + push[at] * stop for at, share in shares.items()}
    return {at: share for at, share in moved.items() if share > 0}, divisor * slope
