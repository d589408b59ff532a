"""A desk of the tests' own: all it has been, in a list, and wishes judged by sums of the tests' own."""

from fractions import Fraction

from closedroads.errors import Broken, InvalidNumber, NothingToUndo, NoWay, TooMany, UnknownRoad
from closedroads.steady import steady_loads
from closedroads.webs import Web
from tests.own import own_closed, own_helping, own_is_made, own_level, own_price, own_ways, own_waste


def own_cheap(web, amount):
    """The indexes of all roads on cheapest ways."""
    loads = steady_loads(web, amount)
    prices = {way: own_price(web, loads, way) for way in own_ways(web)}
    cheap = [way for way in prices if prices[way] == own_level(web, amount)]
    return sorted({index for way in cheap for index in way})


def own_kept(wish, web, amount):
    """Whether a wish holds."""
    number = Fraction(wish[1], wish[2]) if len(wish) == 3 else None
    return {
        "made": lambda: own_is_made(web),
        "calm": lambda: own_helping(web, amount) == (),
        "most": lambda: own_level(web, amount) <= number,
        "least": lambda: own_level(web, amount) >= number,
        "cheap": lambda: wish[1] in own_cheap(web, amount),
        "waste": lambda: own_waste(web, amount) <= number,
    }[wish[0]]()


class OwnDesk:
    """Does what the document says of a desk; arguments are of the right kind and within their limits."""

    def __init__(self, web, amount):
        self.past = [(web, amount, ())]

    def shown(self):
        web, amount, promises = self.past[-1]
        return str(web), amount, promises, len(self.past) - 1

    def become(self, web, amount, promises):
        for index, wish in enumerate(promises):
            if not own_kept(wish, web, amount):
                raise Broken(index)
        self.past.append((web, amount, promises))

    def cost(self, index, base, rise):
        web, amount, promises = self.past[-1]
        if index >= len(web):
            raise UnknownRoad(index)
        roads = list(web.roads)
        roads[index] = roads[index][:2] + (base, rise)
        self.become(Web(web.origin, web.goal, tuple(roads)), amount, promises)

    def close(self, index):
        web, amount, promises = self.past[-1]
        if index >= len(web):
            raise UnknownRoad(index)
        fewer = own_closed(web, (index,))
        if fewer is None:
            raise NoWay()
        self.become(fewer, amount, promises)

    def widen(self, road):
        web, amount, promises = self.past[-1]
        if len(web) == 8:
            raise TooMany(9)
        try:
            wider = Web(web.origin, web.goal, web.roads + (road,))
        except ValueError:
            raise NoWay() from None
        self.become(wider, amount, promises)

    def flow(self, amount):
        self.become(self.past[-1][0], amount, self.past[-1][2])

    def promise(self, wish):
        self.become(self.past[-1][0], self.past[-1][1], self.past[-1][2] + (wish,))

    def lift(self, index):
        web, amount, promises = self.past[-1]
        if index >= len(promises):
            raise InvalidNumber(index)
        self.become(web, amount, promises[:index] + promises[index + 1:])

    def undo(self):
        if len(self.past) == 1:
            raise NothingToUndo()
        self.past.pop()


def drawn_deed(chance, desk):
    """The name of a method of desks and arguments for it, some of which do not go now."""
    web, amount, promises = desk.past[-1]
    name = chance.choice(("cost", "close", "widen", "flow", "promise", "promise", "lift", "undo", "undo"))
    if name == "cost":
        return name, (chance.randint(0, len(web)), chance.choice((0, 3, 10, 50, 1000000)), chance.choice((0, 1, 10)))
    if name == "close":
        return name, (chance.randint(0, len(web)),)
    if name == "widen":
        ends = sorted(chance.sample(web.places + "q", 2))
        return name, (tuple(ends) + (chance.choice((0, 5, 50)), chance.choice((0, 1, 9))),)
    if name == "flow":
        return name, (chance.choice(((6, 1), (5, 1), (13, 2), (1, 3), (50, 7), (1000, 1))),)
    if name == "promise":
        return name, (drawn_wish(chance, web, amount),)
    return name, (chance.randint(0, len(promises)),) if name == "lift" else ()


def drawn_wish(chance, web, amount):
    """A wish that may just hold, or just not."""
    word = chance.choice(("made", "calm", "most", "least", "cheap", "waste"))
    if word in ("made", "calm"):
        return (word,)
    if word == "cheap":
        return (word, chance.randint(0, 7))
    number = own_waste(web, amount) if word == "waste" else own_level(web, amount)
    number = max(Fraction(0), number + Fraction(chance.choice((-3, -1, 0, 0, 1, 3, 40)), 7))
    return (word, number.numerator, number.denominator)
