"""Webs and values that several tests use."""

import random

from closedroads.webs import Web

CROSS_ROADS = (
    ("a", "b", 0, 10),
    ("a", "c", 50, 1),
    ("b", "c", 10, 1),
    ("b", "d", 50, 1),
    ("c", "d", 0, 10),
)
CROSS_TEXT = "a d\na b 0 10\na c 50 1\nb c 10 1\nb d 50 1\nc d 0 10"
TWINS_TEXT = "a b\na b 0 1\na b 2 1"


def cross():
    return Web("a", "d", CROSS_ROADS)


def twins():
    return Web.told(TWINS_TEXT)


class Touchy:
    """A value that bears no comparison, no truth test, no length, no key and no text."""

    def refuse(self, *rest):
        raise RuntimeError("touched")

    __eq__ = __ne__ = __lt__ = __gt__ = __le__ = __ge__ = refuse
    __bool__ = __len__ = __iter__ = __getitem__ = __contains__ = refuse
    __hash__ = __str__ = __repr__ = __int__ = __index__ = refuse


class Agreeing:
    """A value that claims to be equal to all others."""

    def __eq__(self, other):
        return True

    __hash__ = None


def odd_values():
    """Values of many kinds; none of them is a place, a cost, a road, a tuple, a text of a web."""
    return [
        None, True, False, -1, 1000001, 10 ** 99, -(10 ** 99), "", " ", "ab", "A", "{", "`", "0",
        "a\n", "a" * 4000, b"", b"a", b"a b\na b 0 1", [], ["a"], [0], {}, {"a": 1}, {0: 0},
        set(), {0}, frozenset(), range(1), object(), Touchy(), Agreeing(), len, Web, Web.told,
        int, str, ValueError(), 1j, [[[[[[[[[[1]]]]]]]]]], twins(), cross(), iter(()), Ellipsis,
    ]


# Origin, goal, and the ends of one to eight roads.
MADE_SHAPES = (
    ("a", "b", "ab"),
    ("a", "b", "ab ab"),
    ("a", "c", "ab bc"),
    ("b", "a", "ab ab ab"),
    ("a", "c", "bc ab ab"),
    ("c", "a", "ac bc ab"),
    ("a", "c", "ab bc ab bc"),
    ("a", "c", "ab ab bc ac"),
    ("d", "a", "ac cd bd ab"),
    ("a", "e", "ab bc cd de ae"),
    ("a", "e", "ab ab be ae bd de"),
    ("b", "c", "ab ac ab ac bc bd cd"),
    ("a", "e", "ab bc cd de ab bc cd de"),
    ("a", "b", "ab ab ab ab ab ab ab ab"),
    ("a", "i", "ab bc cd de ef fg gh hi"),
    ("z", "m", "my yz mx xy xy mz qz mq"),
    ("a", "d", "ab ab ab bc bc bc cd cd"),
)
CROSSED_SHAPES = (
    ("a", "d", "ab ac bc bd cd"),
    ("c", "b", "ac ab ad bd cd"),
    ("a", "d", "ab ac bc bc bd cd"),
    ("a", "e", "ab bc bd cd ce de"),
    ("a", "e", "ab ac bc bd cd de"),
    ("a", "d", "ad ab ac bc bd cd"),
    ("a", "e", "ab ac be ce bd de cd"),
    ("a", "f", "ab bc bd cd ce de ef"),
    ("a", "f", "ab ac bc bd ce de df ef"),
    ("a", "d", "ab ac bc bd cd ab ac cd"),
    ("a", "e", "ab ac ad bc cd be de ce"),
    ("e", "a", "ab ac be ce bd cd ad de"),
    ("a", "f", "ab ac bd cd de bf ef ae"),
    ("s", "t", "as sv au uv tu tv sv tu"),
)


def roads_of(ends, numbers):
    """Roads with these ends, written as words, and with these pairs of numbers."""
    return tuple([(x, y) + tuple(pair) for (x, y), pair in zip(ends.split(), numbers)])


def dressed(shape, seed):
    """A web of this shape with costs from one of several ranges, the same ones for the same seed."""
    origin, goal, ends = shape
    chance = random.Random(seed)
    pool = ((0, 1, 2), (0, 0, 3, 50), range(12), (0, 1, 10, 1000000), range(1000001))[seed % 5]
    numbers = [(chance.choice(pool), chance.choice(pool)) for _ in ends.split()]
    return Web(origin, goal, roads_of(ends, numbers))


def made_webs():
    return [dressed(shape, at) for at, shape in enumerate(MADE_SHAPES)]


def crossed_webs():
    return [dressed(shape, at) for at, shape in enumerate(CROSSED_SHAPES)]


def sample_webs():
    """Webs of one to eight roads, and the same with their ends exchanged."""
    webs = made_webs() + crossed_webs() + [cross(), twins()]
    return webs + [web.turned() for web in webs]
