"""Claims for the checker, each with the certificate that shows it."""

from closedroads.closing import helping
from closedroads.pieces import crossing, making
from closedroads.steady import level, steady


def certify_level(web, amount):
    """The claim "steady" of the level with this amount, and its certificate."""
    now = level(web, amount)
    return (("steady", str(web)) + amount + now, steady(web, amount))


def certify_making(web):
    """The claim "made" or "crossed", and its certificate."""
    how = making(web)
    if how is None:
        return (("crossed", str(web)), crossing(web))
    return (("made", str(web)), how)


def certify_closing(web, amount):
    """The claim "helps" of some road, or "calm" if none helps, and its certificate."""
    found = helping(web, amount)
    if len(found) == 0:
        return (("calm", str(web)) + amount, ())
    fewer = web.closed(found[:1])
    return (("helps", str(web)) + amount + found[:1], (steady(web, amount), steady(fewer, amount)))
