"""How webs are made, read back bracket by bracket, and made webs put together by the tests."""

import random

from closedroads.webs import Web

KINDS = {"(": ("behind", ")"), "[": ("beside", "]")}


def read(text):
    """The tree that a text tells: an index, or a pair of a kind and a list of trees."""
    tree, at = read_from(text, 0)
    if at != len(text):
        raise AssertionError("something is left behind " + text[:at])
    return tree


def read_from(text, at):
    if text[at].isdigit():
        return int(text[at]), at + 1
    kind, closing = KINDS[text[at]]
    rows = []
    while True:
        tree, at = read_from(text, at + 1)
        rows.append(tree)
        if text[at] == closing:
            return (kind, rows), at + 1
        if text[at] != " ":
            raise AssertionError("no space at " + str(at))


def indexes_of(tree):
    if type(tree) is int:
        return [tree]
    return [index for row in tree[1] for index in indexes_of(row)]


def in_form(tree):
    """Whether no row is within one of its kind or has one part, and those beside ascend."""
    if type(tree) is int:
        return True
    kind, rows = tree
    firsts = [min(indexes_of(row)) for row in rows]
    if len(rows) < 2 or (kind == "beside" and firsts != sorted(firsts)):
        return False
    return all(in_form(row) and (type(row) is int or row[0] != kind) for row in rows)


def gone(web, tree, start):
    """Where the tree, as made webs, leads from this place, and all its places; None if nowhere."""
    if type(tree) is int:
        x, y = web.roads[tree][:2]
        if start not in (x, y):
            return None
        return (y if start == x else x, {x, y})
    kind, rows = tree
    if kind == "behind":
        return gone_behind(web, rows, start)
    parts = [gone(web, row, start) for row in rows]
    if None in parts or len({end for end, _ in parts}) != 1:
        return None
    end, met = parts[0][0], {start, parts[0][0]}
    for _, places in parts:
        if places & met != {start, end}:
            return None
        met |= places
    return (end, met)


def gone_behind(web, rows, start):
    place, met = start, {start}
    for row in rows:
        part = gone(web, row, place)
        if part is None or part[1] & met != {place}:
            return None
        place = part[0]
        met |= part[1]
    return (place, met)


def is_right(web, text):
    """Whether the text tells how the web is made, written as it has to be."""
    tree = read(text)
    if sorted(indexes_of(tree)) != list(range(len(web))) or not in_form(tree):
        return False
    led = gone(web, tree, web.origin)
    return led is not None and led[0] == web.goal


def grown(many, kind, chance):
    """A tree in form with so many leaves, all None, whose top is not of this kind."""
    if many == 1:
        return None
    other = "beside" if kind == "behind" else "behind"
    cuts = sorted(chance.sample(range(1, many), chance.randint(1, many - 1)))
    sizes = [end - start for start, end in zip([0] + cuts, cuts + [many])]
    return (other, [grown(size, other, chance) for size in sizes])


def laid(tree, start, end, roads, free):
    """Lays the roads of a tree between two places; the tree with the numbers of its roads."""
    if tree is None:
        roads.append(tuple(sorted([start, end])))
        return len(roads) - 1
    kind, rows = tree
    if kind == "beside":
        return (kind, [laid(row, start, end, roads, free) for row in rows])
    stops = [start] + [free.pop() for _ in rows[1:]] + [end]
    return (kind, [laid(row, x, y, roads, free) for row, x, y in zip(rows, stops, stops[1:])])


def written(tree, order):
    """The text of a tree whose roads have got other indexes."""
    if type(tree) is int:
        return str(order[tree])
    kind, rows = tree
    if kind == "beside":
        rows = sorted(rows, key=lambda row: min(order[index] for index in indexes_of(row)))
        return "[" + " ".join(written(row, order) for row in rows) + "]"
    return "(" + " ".join(written(row, order) for row in rows) + ")"


def made_at_random(seed):
    """A web put together behind and beside, and the text that tells how."""
    chance = random.Random(seed)
    free = chance.sample("abcdefghijklmnopqrstuvwxyz", 26)
    origin, goal = free.pop(), free.pop()
    ends = []
    tree = laid(grown(seed % 8 + 1, chance.choice(["behind", "beside"]), chance), origin, goal, ends, free)
    order = chance.sample(range(len(ends)), len(ends))
    roads = [None] * len(ends)
    for old, new in enumerate(order):
        roads[new] = ends[old] + (chance.randint(0, 9), chance.randint(0, 9))
    return Web(origin, goal, tuple(roads)), written(tree, order)
