"""Webs of roads, and the checks of arguments that are webs or indexes of their roads."""

from closedroads.errors import InvalidCost, InvalidIndexes, InvalidNumber, InvalidPlace
from closedroads.errors import InvalidRoads, InvalidText, NotAWeb, NoWay, TooMany, UnknownRoad
from closedroads.limits import MOST_ROADS
from closedroads.routes import used_indexes
from closedroads.values import is_cost, is_place, is_road, is_whole, read_whole


class Web:
    """Roads from an origin to a goal, each of them on some way; a web never changes."""

    def __init__(self, origin, goal, roads):
        if not is_place(origin):
            raise InvalidPlace(origin)
        if not is_place(goal) or goal == origin:
            raise InvalidPlace(goal)
        need_roads(roads)
        need_ways(origin, goal, roads)
        self._origin = origin
        self._goal = goal
        self._roads = roads

    @classmethod
    def told(cls, text):
        """The web with this text."""
        web = read_web(text)
        if web is None:
            raise InvalidText(text)
        return web

    @property
    def origin(self):
        """The place where all ways begin."""
        return self._origin

    @property
    def goal(self):
        """The place where all ways end."""
        return self._goal

    @property
    def roads(self):
        """The tuple of the roads."""
        return self._roads

    @property
    def places(self):
        """The ascending string of the places at the ends of roads."""
        return "".join(sorted({place for road in self._roads for place in road[:2]}))

    def __len__(self):
        return len(self._roads)

    def __str__(self):
        rows = [(self._origin, self._goal), *self._roads]
        return "\n".join([" ".join([str(word) for word in row]) for row in rows])

    def __eq__(self, other):
        # Unlike origins, goals or roads are written unlike, so the texts need not be compared.
        return (type(other) is Web and self._origin == other._origin
                and self._goal == other._goal and self._roads == other._roads)

    def costing(self, index, base, rise):
        """The web in which this road has other numbers."""
        need_index(self, index)
        if not is_cost(base):
            raise InvalidCost(base)
        if not is_cost(rise):
            raise InvalidCost(rise)
        road = self._roads[index][:2] + (base, rise)
        roads = self._roads[:index] + (road,) + self._roads[index + 1:]
        return Web(self._origin, self._goal, roads)

    def closed(self, indexes):
        """The web without these roads and without those that then lie on no way."""
        need_indexes(self, indexes)
        kept = [road for index, road in enumerate(self._roads) if index not in indexes]
        used = used_indexes(self._origin, self._goal, kept)
        if len(used) == 0:
            raise NoWay()
        return Web(self._origin, self._goal, tuple([kept[index] for index in used]))

    def turned(self):
        """The web with origin and goal exchanged."""
        return Web(self._goal, self._origin, self._roads)

    def widened(self, road):
        """The web with this road as the last one."""
        if not is_road(road):
            raise InvalidNumber(road)
        many = len(self._roads)
        if many == MOST_ROADS:
            raise TooMany(many + 1)
        roads = self._roads + (road,)
        if many not in used_indexes(self._origin, self._goal, roads):
            raise NoWay()
        return Web(self._origin, self._goal, roads)


def need_web(web):
    """Raises NotAWeb for what is no Web."""
    if type(web) is not Web:
        raise NotAWeb(web)


def need_index(web, index):
    """Raises UnknownRoad for what is no index of a road of the web."""
    if not is_whole(index, len(web) - 1):
        raise UnknownRoad(index)


def need_indexes(web, indexes):
    """Raises InvalidIndexes for what is no ascending tuple of indexes of roads of the web."""
    if type(indexes) is not tuple:
        raise InvalidIndexes(None)
    least = 0
    for at, index in enumerate(indexes):
        if not is_whole(index, len(web) - 1) or index < least:
            raise InvalidIndexes(at)
        least = index + 1


def need_roads(roads):
    """Raises InvalidRoads for what is no tuple of one to MOST_ROADS roads."""
    if type(roads) is not tuple or len(roads) == 0:
        raise InvalidRoads(None)
    for index, road in enumerate(roads):
        if index == MOST_ROADS or not is_road(road):
            raise InvalidRoads(index)


def need_ways(origin, goal, roads):
    """Raises InvalidRoads for the first road that lies on no way."""
    used = used_indexes(origin, goal, roads)
    for index in range(len(roads)):
        if index not in used:
            raise InvalidRoads(index)


def read_web(text):
    """The web with this text; None if any value is no text of a web."""
    if type(text) is not str:
        return None
    lines = text.split("\n")
    ends = lines[0].split(" ")
    if len(ends) != 2:
        return None
    try:
        return Web(ends[0], ends[1], tuple([read_road(line) for line in lines[1:]]))
    except (InvalidPlace, InvalidRoads):
        return None


def read_road(line):
    """The tuple that a line tells: no road unless the line is one of a web's text."""
    words = line.split(" ")
    return tuple(words[:2] + [read_whole(word) for word in words[2:]])
