"""A checker of the tests' own, and ways to bend claims and certificates."""

import re
from fractions import Fraction
from math import gcd

from closedroads.webs import Web
from tests.making_read import is_right
from tests.own import own_amount, own_closed, own_crossings, own_excess, own_helping, own_price, own_ways
from tests.samples import odd_values

LINES = re.compile(r"[a-z] [a-z](\n[a-z] [a-z] (0|[1-9][0-9]*) (0|[1-9][0-9]*))+")


def own_web(text):
    """The web with this text; None if any value is none."""
    if type(text) is not str or not LINES.fullmatch(text):
        return None
    ends, *rows = [line.split(" ") for line in text.split("\n")]
    try:
        return Web(*ends, tuple([(x, y, int(base), int(rise)) for x, y, base, rise in rows]))
    except ValueError:
        return None


def fraction(top, bottom):
    """The Fraction that two values are in lowest terms; None if they are none from 0 on."""
    if type(top) is not int or type(bottom) is not int or bottom < 1 or top < 0 or gcd(top, bottom) > 1:
        return None
    return Fraction(top, bottom)


def rows_of(value):
    """Whether any value is a tuple of integers alone."""
    return type(value) is tuple and all([type(index) is int for index in value])


def own_shown(web, amount, loads):
    """The level that loads show with this amount; None if any value shows none."""
    if type(loads) is not tuple or loads == ():
        return None
    for load in loads:
        if type(load) is not tuple or len(load) != 3 or not rows_of(load[0]) or load[0] not in own_ways(web):
            return None
        if not fraction(load[1], load[2]):
            return None
    ways = [load[0] for load in loads]
    if ways != sorted(set(ways)) or own_amount(loads) != amount or own_excess(web, loads) != 0:
        return None
    return own_price(web, loads, ways[0])


def own_accepts(claim, certificate):
    if type(claim) is not tuple or len(claim) < 2 or type(claim[0]) is not str:
        return False
    web, word, told = own_web(claim[1]), claim[0], claim[2:]
    if web is None or len(told) != {"steady": 4, "made": 0, "crossed": 0, "helps": 3, "calm": 2}.get(word, -1):
        return False
    if word == "made":
        return type(certificate) is str and own_made(web, certificate)
    if word == "crossed":
        rows = type(certificate) is tuple and all([rows_of(row) for row in certificate])
        return rows and certificate in own_crossings(web)
    amount = fraction(told[0], told[1])
    if not amount:
        return False
    if word == "steady":
        level = fraction(told[2], told[3])
        return level is not None and own_shown(web, amount, certificate) == level
    if word == "calm":
        return type(certificate) is tuple and len(certificate) == 0 and own_helping(web, told) == ()
    return own_helps(web, amount, told[2], certificate)


def own_helps(web, amount, index, certificate):
    if type(index) is not int or not 0 <= index < len(web):
        return False
    fewer = own_closed(web, (index,))
    if fewer is None or type(certificate) is not tuple or len(certificate) != 2:
        return False
    levels = own_shown(web, amount, certificate[0]), own_shown(fewer, amount, certificate[1])
    return None not in levels and levels[1] < levels[0]


def own_made(web, text):
    try:
        return is_right(web, text)
    except (AssertionError, LookupError):
        return False


def bent(value):
    """A value changed at each of its places in many ways; some of them may be right, too."""
    yield from odd_values()
    if type(value) is int:
        yield from (value + 1, value - 1, -value, 2 * value, value + 10 ** 20)
        yield from (str(value), (value,), [value], bool(value))
    elif type(value) is str:
        yield from bent_text(value)
    else:
        yield from bent_tuple(value)


def bent_text(text):
    yield from (text + " ", " " + text, text + "\n", "\n" + text, text * 2, text.upper())
    yield from (text.encode(), (text,), [text])
    for at in range(len(text)):
        yield text[:at] + text[at + 1:]
        for sign in "a1 \n[)":
            yield text[:at] + sign + text[at + 1:]
            yield text[:at] + sign + text[at:]
        yield text[:at] + text[at:at + 2][::-1] + text[at + 2:]


def bent_tuple(row):
    yield from (row[1:], row[::-1], row + row, row + (0,), row + ((),), (row,))
    yield from (list(row), dict(enumerate(row)), str(row))
    for at, element in enumerate(row):
        yield row[:at] + row[at + 1:]
        yield row[:at] + (element, element) + row[at + 1:]
        yield row[:at] + row[at:at + 2][::-1] + row[at + 2:]
        for other in bent(element):
            yield row[:at] + (other,) + row[at + 1:]
