"""Webs and values that several tests use."""

from closedroads.webs import Web

CROSS_ROADS = (
    ("a", "b", 0, 10),
    ("a", "c", 50, 1),
    ("b", "c", 10, 1),
    ("b", "d", 50, 1),
    ("c", "d", 0, 10),
)
CROSS_TEXT = "a d\na b 0 10\na c 50 1\nb c 10 1\nb d 50 1\nc d 0 10"
TWINS_TEXT = "a b\na b 0 1\na b 2 1"


def cross():
    return Web("a", "d", CROSS_ROADS)


def twins():
    return Web.told(TWINS_TEXT)


class Touchy:
    """A value that bears no comparison, no truth test, no length, no key and no text."""

    def refuse(self, *rest):
        raise RuntimeError("touched")

    __eq__ = __ne__ = __lt__ = __gt__ = __le__ = __ge__ = refuse
    __bool__ = __len__ = __iter__ = __getitem__ = __contains__ = refuse
    __hash__ = __str__ = __repr__ = __int__ = __index__ = refuse


class Agreeing:
    """A value that claims to be equal to all others."""

    def __eq__(self, other):
        return True

    __hash__ = None


def odd_values():
    """Values of many kinds; none of them is a place, a cost, a road, a tuple, a text of a web."""
    return [
        None, True, False, -1, 1000001, 10 ** 99, -(10 ** 99), "", " ", "ab", "A", "{", "`", "0",
        "a\n", "a" * 4000, b"", b"a", b"a b\na b 0 1", [], ["a"], [0], {}, {"a": 1}, {0: 0},
        set(), {0}, frozenset(), range(1), object(), Touchy(), Agreeing(), len, Web, Web.told,
        int, str, ValueError(), 1j, [[[[[[[[[[1]]]]]]]]]], twins(), cross(), iter(()), Ellipsis,
    ]
