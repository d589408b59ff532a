"""What the parameters raise wherever they stand, in which order, and what calls leave alone."""

import copy
import inspect
import unittest

from closedroads import certificates as certificates_file
from closedroads import closing as closing_file
from closedroads import loads as loads_file
from closedroads import pieces as pieces_file
from closedroads import profiles as profiles_file
from closedroads import steady as steady_file
from closedroads import totals as totals_file
from closedroads import ways as ways_file
from closedroads.errors import InvalidAmount, InvalidCost, InvalidLoads, InvalidNumber, InvalidWay, NotAWeb, UnknownRoad
from closedroads.webs import Web
from tests.samples import CROSS_TEXT, Agreeing, Touchy, cross, crossed_webs, odd_values, twins

CALM = (((0, 2, 4), 2, 1), ((0, 3), 2, 1), ((1, 4), 2, 1))
LINES = ((0, 2, 4), (0, 3), (1, 2, 3), (1, 4))

# The functions of the interface by their files, with their parameters.
SHAPES = {
    ways_file: {
        "ways": "(web)", "ways_over": "(web, index)", "places_on": "(web, way)", "cost_without": "(web, way)",
    },
    loads_file: {
        "carried": "(web, loads)", "road_loads": "(web, loads)", "road_costs": "(web, loads)",
        "way_cost": "(web, loads, way)", "is_steady": "(web, loads)", "excess": "(web, loads)",
    },
    steady_file: {
        "steady": "(web, amount)", "level": "(web, amount)", "costs": "(web, amount)",
        "cheapest": "(web, amount)", "cheap_roads": "(web, amount)",
    },
    pieces_file: {
        "is_made": "(web)", "making": "(web)", "crossing": "(web)", "middles": "(web)",
        "is_crossing": "(web, piece)", "worst_costs": "(web)",
    },
    closing_file: {
        "level_without": "(web, index, amount)", "levels_without": "(web, amount)", "helping": "(web, amount)",
        "level_raised": "(web, index, amount, by)", "raising_helps": "(web, index, amount, by)",
        "best_closing": "(web, amount, most)",
    },
    totals_file: {
        "total": "(web, loads)", "best_loads": "(web, amount)", "least_total": "(web, amount)",
        "tolls": "(web, amount)", "waste": "(web, amount)", "are_best": "(web, loads)",
    },
    profiles_file: {
        "profile": "(web)", "level_at": "(points, slope, amount)", "amount_for": "(web, level)",
        "is_endless": "(web, level)",
    },
    certificates_file: {
        "certify_level": "(web, amount)", "certify_making": "(web)", "certify_closing": "(web, amount)",
    },
}
CALLS = [getattr(file, name) for file, names in SHAPES.items() for name in names]
RIGHT = {
    "web": cross(), "index": 2, "way": (1, 4), "loads": CALM, "amount": (6, 1), "piece": None, "by": 3, "most": 1,
    "points": (((0, 1), (0, 1)), ((2, 1), (2, 1))), "slope": (1, 2), "level": (3, 1),
}


def wrong_webs():
    others = [CROSS_TEXT, ("a", "d", cross().roads), cross().roads, (), Touchy(), Agreeing(), CALM]
    return [value for value in odd_values() if type(value) is not Web] + others


def wrong_indexes():
    return odd_values() + [5, 6, 8, "1", (0,), (), [0], b"\x00", Touchy(), Agreeing(), cross(), CALM]


def wrong_ways():
    rows = [
        (), (0,), (1,), (2,), (0, 2), (3, 0), (0, 3, 4), (0, 3, 3), (2, 0, 3), (0, 2, 1), (0, 2, 4, 3), (0, 2, 1, 0, 3),
        (0, 0, 0, 3), (0, 5), (0, -2), (5,), (-1,), (0, 8), (0, 3, 5), (0, 10 ** 99), (0, 1, 2, 3, 4),
        (False, 3), (True, 4), (0, True), (1, 4, True), ("0", "3"), ("a", "d"), (0, "3"), (0, None), (0, (3,)),
        [0, 3], ((0, 3),), ([0, 3],), (0, [3]), {0: 0, 3: 3}, "03", b"\x00\x03", range(0, 4, 3), (0, Touchy()),
        (Touchy(), 3), (0, Agreeing()), (Agreeing(), Agreeing()), Agreeing(), Touchy(), ((0, 2, 4), 2, 1), CALM,
    ]
    return odd_values() + rows


def wrong_amounts():
    rows = [
        (), (1,), (1, 1, 1), (0, 1), (-1, 1), (1, 0), (1, -1), (-1, -1), (0, 0), (2, 2), (2, 4), (1000, 1000), (6, 3),
        (1000001, 1), (1000001, 1000), (1, 1001), (1000000, 1001), (10 ** 99, 1), (1, 10 ** 99), (True, 1), (1, True),
        (True, True), (False, 1), (1, False), ("1", 1), (1, "1"), (None, 1), (1, None), [1, 1], [6, 1], ((6, 1),),
        ((6,), (1,)), ([6], 1), (6, [1]), {6: 1}, "61", "6/1", 6, 1, b"\x06\x01", range(1, 3), (Touchy(), 1),
        (1, Touchy()), (Agreeing(), 1), (1, Agreeing()), Agreeing(), Touchy(), CALM,
    ]
    return odd_values() + rows


def wrong_fractions():
    """What is no fraction from 0 on."""
    rows = [
        (), (1,), (1, 1, 1), (0, 2), (0, 0), (0, -1), (-1, 1), (-1, 2), (1, 0), (1, -1), (-1, -1), (2, 2), (2, 4),
        (1000, 1000), (6, 3), (10 ** 99, 10 ** 98), (True, 1), (1, True), (False, 1), (0, True), (True, True),
        ("1", 1), (1, "1"), (None, 1), (1, None), [0, 1], [1, 1], ((1, 1),), ((1,), (1,)), ([1], 1), (1, [1]),
        {1: 1}, "11", "1/1", 0, 1, b"\x01\x01", range(1, 3), (Touchy(), 1), (1, Touchy()), (Agreeing(), 1),
        (1, Agreeing()), Agreeing(), Touchy(), CALM, (0, 1, 1), (1j, 1),
    ]
    return odd_values() + rows


def wrong_numbers():
    """What is no integer from 0 to some thousands."""
    rows = [(), (0,), (1,), [1], "1", "0", b"\x01", {1: 1}, range(1), Touchy(), Agreeing(), CALM, -2, -1000000]
    return odd_values() + rows


def wrong_loads():
    """Pairs of what are no loads of the crossed web, and the index that is told of it."""
    for value in odd_values() + [(), [], list(CALM), {CALM[0]: 1}, "loads", Touchy(), Agreeing(), set(CALM), range(3)]:
        yield value, None
    first, second, third = CALM
    for load in wrong_elements():
        yield (load,), 0
        yield (first, load), 1
        yield (first, load, load, third), 1
        yield (first, second, third, load), 3
    for way in wrong_ways():
        yield ((way, 2, 1),), 0
        yield (first, (way, 2, 1), third), 1
    # The same way twice, whatever goes there; not ascending; the first wrong element counts.
    yield (first, first), 1
    yield (first, (first[0], 3, 1)), 1
    yield (first, second, (second[0], 5, 2), third), 2
    yield (first, second, (second[0], 1, 2)), 2
    yield (second, first), 1
    yield (first, third, second), 2
    yield (third, second, first), 1
    yield (first, second, first), 2
    yield (second, first, None), 1
    yield (first, None, second, second), 1
    yield (first, third, ((1, 2, 3), 2, 4)), 2
    yield CALM + CALM, 3
    yield CALM + (third,) * 30, 3


def wrong_elements():
    """What is no triple of a way and a fraction above 0, and stands behind the first way anyway."""
    triples = [
        ((1, 4),), ((1, 4), 1), ((1, 4), 1, 1, 1), ((1, 4), (1, 1)), [(1, 4), 1, 1], ((1, 4), 0, 1), ((1, 4), -1, 1),
        ((1, 4), 1, 0), ((1, 4), 1, -1), ((1, 4), -1, -1), ((1, 4), 0, 0), ((1, 4), 2, 4), ((1, 4), 2, 2),
        ((1, 4), 10 ** 50, 10 ** 40), ((1, 4), True, 1), ((1, 4), 1, True), ((1, 4), False, 1), ((1, 4), 1, False),
        ((1, 4), "1", 1), ((1, 4), 1, "1"), ((1, 4), None, 1), ((1, 4), 1, None), ((1, 4), (1,), 1), ([1, 4], 1, 1),
        ((1, 4), Touchy(), 1), ((1, 4), 1, Touchy()), ((1, 4), Agreeing(), 1), ((1, 4), 1, Agreeing()),
        (Agreeing(), 1, 1), ((1, 4), [1], [1]), (), (1, 4), "141", b"141", (None, None, None), {(1, 4): 1},
        (1, 1, (1, 4)), ((1, 3), 1, 1), ((1, 5), 1, 1), ((4, 1), 1, 1), ((1, True), 1, 1), ((True, 4), 1, 1),
    ]
    return odd_values() + triples


WRONG = {
    "web": [(value, NotAWeb, "given", value) for value in wrong_webs()],
    "index": [(value, UnknownRoad, "given", value) for value in wrong_indexes()],
    "way": [(value, InvalidWay, "given", value) for value in wrong_ways()],
    "amount": [(value, InvalidAmount, "given", value) for value in wrong_amounts()],
    "loads": [(value, InvalidLoads, "index", index) for value, index in wrong_loads()],
    # The A of the road with the index 2 is 10.
    "by": [(value, InvalidCost, "given", value) for value in wrong_numbers() + [999991, 999992, 1000000]],
    "most": [(value, InvalidNumber, "given", value) for value in wrong_numbers() + [4, 5, 8]],
    "level": [(value, InvalidNumber, "given", value) for value in wrong_fractions()],
}
WRONG_AT_ANY_AMOUNT = [(value, InvalidAmount, "given", value) for value in wrong_fractions()]


def wrong_for(call, name):
    """What may not be passed to a call by this name, and what is told of it."""
    if call is profiles_file.level_at and name == "amount":
        return WRONG_AT_ANY_AMOUNT
    return WRONG.get(name, [])


class Interface(unittest.TestCase):
    def test_functions_are_defined_in_their_files(self):
        for file, names in SHAPES.items():
            for name, shape in names.items():
                function = getattr(file, name)
                self.assertTrue(inspect.isfunction(function))
                self.assertEqual(function.__module__, file.__name__)
                self.assertIn("def " + name + shape, inspect.getsource(file))
                self.assertEqual(str(inspect.signature(function)), shape)


class WrongArguments(unittest.TestCase):
    def refuse(self, told, call, *passed, **named):
        _, kind, name, value = told
        with self.assertRaises(kind) as caught:
            call(*passed, **named)
        self.assertIs(type(caught.exception), kind)
        self.assertEqual(list(vars(caught.exception)), [name])
        self.assertIs(getattr(caught.exception, name), value)

    def test_each_wrong_argument_of_each_call(self):
        for call in CALLS:
            names = list(inspect.signature(call).parameters)
            for at, name in enumerate(names):
                for told in wrong_for(call, name):
                    passed = [RIGHT[other] for other in names]
                    passed[at] = told[0]
                    self.refuse(told, call, *passed)
                    self.refuse(told, call, **dict(zip(names, passed)))

    def test_the_first_wrong_argument_counts(self):
        for call in CALLS:
            names = list(inspect.signature(call).parameters)
            for at, name in enumerate(names):
                for told in wrong_for(call, name)[:12]:
                    for wrong in (None, [], Touchy()):
                        passed = [RIGHT[other] for other in names[:at]] + [told[0]] + [wrong] * len(names[at + 1:])
                        self.refuse(told, call, *passed)
                        self.refuse(told, call, **dict(reversed(list(zip(names, passed)))))

    def test_ways_and_loads_of_another_web(self):
        for web in crossed_webs():
            told = (CALM, InvalidLoads, "index", 0)
            line = (LINES[0], InvalidWay, "given", LINES[0])
            if LINES[0] not in ways_file.ways(web):
                self.refuse(told, loads_file.carried, web, CALM)
                self.refuse(line, ways_file.places_on, web, LINES[0])
        self.refuse((None, InvalidLoads, "index", 0), loads_file.excess, twins(), CALM)
        self.refuse((None, InvalidLoads, "index", 1), loads_file.excess, twins(), (((0,), 1, 1), ((2,), 1, 1)))
        self.refuse((None, UnknownRoad, "given", 2), ways_file.ways_over, twins(), 2)

    def test_what_is_returned_and_then_changed(self):
        web = cross()
        told = steady_file.steady(web, (999983, 1000))
        self.assertIs(loads_file.is_steady(web, told), True)
        self.assertIs(loads_file.is_steady(web, told[:-1]), False)
        self.refuse((None, InvalidLoads, "index", 1), loads_file.is_steady, web, told[::-1])
        self.refuse((None, InvalidLoads, "index", None), loads_file.is_steady, web, list(told))
        self.refuse((None, InvalidLoads, "index", len(told)), loads_file.is_steady, web, told + told[-1:])
        doubled = tuple([(way, top * 2, bottom * 2) for way, top, bottom in told])
        self.refuse((None, InvalidLoads, "index", 0), loads_file.carried, web, doubled)
        self.assertEqual(ways_file.places_on(web, told[-1][0]), "acd")
        level = steady_file.level(web, (999983, 1000))
        self.refuse((None, InvalidAmount, "given", level), steady_file.level, web, level)


class RightArguments(unittest.TestCase):
    def test_the_limits_of_amounts(self):
        for amount in ((1, 1), (1, 1000), (1000000, 1), (1000000, 999), (999999, 1000), (2, 3), (3, 2), (999, 1000)):
            for call in (steady_file.steady, steady_file.level, steady_file.costs):
                self.assertEqual(call(cross(), amount), call(amount=amount, web=cross()))
            self.assertEqual(loads_file.carried(cross(), steady_file.steady(cross(), amount)), amount)

    def test_loads_may_be_greater_and_smaller_than_amounts(self):
        for top, bottom in ((10 ** 99, 1), (1, 10 ** 99), (10 ** 99, 10 ** 99 - 1), (1000001, 1), (1, 1001)):
            loads = (((0,), top, bottom),)
            self.assertEqual(loads_file.carried(twins(), loads), (top, bottom))
            self.assertEqual(loads_file.road_loads(twins(), loads), ((top, bottom), (0, 1)))
            self.assertEqual(loads_file.way_cost(twins(), loads, (0,)), (top, bottom))

    def test_each_way_and_each_index(self):
        for index in range(5):
            self.assertNotEqual(ways_file.ways_over(cross(), index), ())
        for way in LINES:
            self.assertEqual(loads_file.carried(cross(), ((way, 5, 7),)), (5, 7))
            self.assertEqual(len(ways_file.places_on(cross(), way)), len(way) + 1)

    def test_calls_change_nothing_and_give_the_same_again(self):
        for call in CALLS:
            names = list(inspect.signature(call).parameters)
            passed = [RIGHT[name] for name in names]
            kept = copy.deepcopy([value for value in passed if type(value) is not Web])
            first = call(*passed)
            self.assertEqual(call(*[cross() if name == "web" else RIGHT[name] for name in names]), first)
            self.assertEqual(kept, [value for value in passed if type(value) is not Web])
            self.assertEqual(str(RIGHT["web"]), CROSS_TEXT)


if __name__ == "__main__":
    unittest.main()
