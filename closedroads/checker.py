"""The checker: whether a certificate shows that a claim is true, whoever wrote the two."""

from closedroads.closing import helping_at
from closedroads.errors import InvalidLoads, NoWay
from closedroads.loads import carried, is_steady, way_cost
from closedroads.pieces import is_crossing, making
from closedroads.ratios import is_fraction, is_less
from closedroads.values import is_whole
from closedroads.webs import read_web


def accepts(claim, certificate):
    """Whether these are a claim for the checker and a certificate for it."""
    if type(claim) is not tuple or len(claim) < 2:
        return False
    word, text = claim[:2]
    # Only strings are looked up: other values might bear neither being compared nor being a key.
    if type(word) is not str or word not in CHECKS:
        return False
    web = read_web(text)
    if web is None:
        return False
    check = CHECKS[word]
    return check(web, claim[2:], certificate)


def shows_steady(web, told, certificate):
    """Whether loads show that the level at an amount is this one."""
    if not is_amount(told[:2]) or not is_fraction(told[2:]):
        return False
    return shown_level(web, told[:2], certificate) == told[2:]


def shows_made(web, told, certificate):
    """Whether a text tells how the web is made."""
    # There is but one way to write how a web is made.
    return len(told) == 0 and type(certificate) is str and certificate == making(web)


def shows_crossed(web, told, certificate):
    """Whether a crossing piece shows that the web is not made."""
    return len(told) == 0 and is_crossing(web, certificate)


def shows_helps(web, told, certificate):
    """Whether two loads show that closing a road makes the level less."""
    if len(told) != 3 or not is_amount(told[:2]) or not is_whole(told[2], len(web) - 1):
        return False
    if type(certificate) is not tuple or len(certificate) != 2:
        return False
    try:
        fewer = web.closed(told[2:])
    except NoWay:
        return False
    before = shown_level(web, told[:2], certificate[0])
    after = shown_level(fewer, told[:2], certificate[1])
    return before is not None and after is not None and is_less(after, before)


def shows_calm(web, told, certificate):
    """Whether closing no single road makes the level less; the certificate is empty."""
    if not is_amount(told):
        return False
    if type(certificate) is not tuple or len(certificate) != 0:
        return False
    return helping_at(web, told) == ()


def is_amount(value):
    """Whether any value is a fraction above 0."""
    return is_fraction(value) and value[0] > 0


def shown_level(web, amount, loads):
    """The level that steady loads with this amount show, a fraction; None if any value is none."""
    try:
        if carried(web, loads) != amount or not is_steady(web, loads):
            return None
    except InvalidLoads:
        return None
    return way_cost(web, loads, loads[0][0])


CHECKS = {
    "steady": shows_steady,
    "made": shows_made,
    "crossed": shows_crossed,
    "helps": shows_helps,
    "calm": shows_calm,
}
