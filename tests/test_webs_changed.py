import itertools
import unittest

from closedroads.errors import InvalidCost, InvalidIndexes, InvalidNumber, NoWay, TooMany, UnknownRoad
from closedroads.webs import Web
from tests.samples import CROSS_ROADS, CROSS_TEXT, TWINS_TEXT, Agreeing, Touchy, cross, odd_values, twins

ROAD = ("a", "b", 0, 1)


class Unchanging(unittest.TestCase):
    """The webs of a test stay as they are, whatever was asked of them."""

    def setUp(self):
        self.cross = cross()
        self.twins = twins()

    def tearDown(self):
        self.assertEqual([str(self.cross), str(self.twins)], [CROSS_TEXT, TWINS_TEXT])
        self.assertEqual(self.cross.roads, CROSS_ROADS)

    def refuse(self, kind, told, call, *passed, **named):
        with self.assertRaises(kind) as caught:
            call(*passed, **named)
        self.assertIs(type(caught.exception), kind)
        self.assertEqual(list(vars(caught.exception)), list(told))
        for name, value in told.items():
            self.assertIs(getattr(caught.exception, name), value)


class Costing(Unchanging):
    def test_other_numbers(self):
        web = self.cross.costing(2, 7, 0)
        self.assertEqual(web.roads, CROSS_ROADS[:2] + (("b", "c", 7, 0),) + CROSS_ROADS[3:])
        self.assertEqual((web.origin, web.goal), ("a", "d"))
        self.assertTrue(self.cross.costing(index=2, base=7, rise=0) == web)
        self.assertTrue(self.cross.costing(2, rise=0, base=7) == web)

    def test_each_road_and_the_limits(self):
        for index in range(5):
            for base, rise in ((0, 0), (1000000, 1000000), (0, 1000000), (3, 4)):
                web = self.cross.costing(index, base, rise)
                self.assertEqual(web.roads[index], CROSS_ROADS[index][:2] + (base, rise))
                self.assertEqual(web.roads[:index], CROSS_ROADS[:index])
                self.assertEqual(web.roads[index + 1:], CROSS_ROADS[index + 1:])

    def test_the_same_numbers(self):
        self.assertTrue(self.twins.costing(1, 2, 1) == self.twins)

    def test_unknown_roads(self):
        for value in odd_values() + [2, 5, 8, "0", (0,), ()]:
            self.refuse(UnknownRoad, {"given": value}, self.twins.costing, value, 0, 0)
            self.refuse(UnknownRoad, {"given": value}, self.twins.costing, rise=0, base=0, index=value)

    def test_wrong_costs(self):
        for value in odd_values() + ["0", "1", (0,), (1, 1), (), Touchy(), Agreeing()]:
            self.refuse(InvalidCost, {"given": value}, self.twins.costing, 0, value, 0)
            self.refuse(InvalidCost, {"given": value}, self.twins.costing, 0, 0, value)
            self.refuse(InvalidCost, {"given": value}, self.twins.costing, 0, rise=value, base=0)

    def test_the_order_of_errors(self):
        self.refuse(UnknownRoad, {"given": 2}, self.twins.costing, 2, -1, -2)
        self.refuse(UnknownRoad, {"given": True}, self.twins.costing, rise=-2, base=-1, index=True)
        self.refuse(InvalidCost, {"given": -1}, self.twins.costing, 1, -1, -2)
        self.refuse(InvalidCost, {"given": -1}, self.twins.costing, rise=-2, base=-1, index=1)
        self.refuse(InvalidCost, {"given": -2}, self.twins.costing, 1, 1, -2)


class Closed(Unchanging):
    def test_the_examples(self):
        self.assertEqual(str(self.cross.closed((0,))), "a d\na c 50 1\nb c 10 1\nb d 50 1\nc d 0 10")
        self.assertEqual(self.twins.closed((1,)).roads, (ROAD,))
        self.assertEqual(len(self.cross.closed((2,))), 4)

    def test_by_name(self):
        self.assertTrue(self.cross.closed(indexes=(2,)) == self.cross.closed((2,)))

    def test_none_closed(self):
        self.assertTrue(self.cross.closed(()) == self.cross)

    def test_roads_that_then_lie_on_no_way_go_too(self):
        self.assertEqual(self.cross.closed((0, 2)).roads, (CROSS_ROADS[1], CROSS_ROADS[4]))
        self.assertEqual(self.cross.closed((0, 3)).roads, (CROSS_ROADS[1], CROSS_ROADS[4]))
        self.assertEqual(self.cross.closed((0, 2, 3)).roads, (CROSS_ROADS[1], CROSS_ROADS[4]))
        row = Web("a", "c", (("b", "c", 1, 1), ("a", "c", 2, 2), ("a", "b", 3, 3)))
        self.assertEqual(row.closed((2,)).roads, (("a", "c", 2, 2),))
        # The road of c and d could then be reached by a place met twice alone.
        bow = Web("a", "b", (("a", "c", 1, 1), ("b", "c", 2, 2), ("c", "d", 3, 3), ("b", "d", 4, 4)))
        self.assertEqual(bow.closed((3,)).roads, (("a", "c", 1, 1), ("b", "c", 2, 2)))

    def test_all_closings_of_some_webs(self):
        for web in (self.cross, self.twins, self.cross.widened(("a", "d", 9, 9))):
            many = len(web)
            for size in range(many + 1):
                for indexes in itertools.combinations(range(many), size):
                    self.check_closing(web, indexes)

    def check_closing(self, web, indexes):
        """The closed web is the greatest one of the other roads that is a web at all."""
        others = [web.roads[at] for at in range(len(web)) if at not in indexes]
        for size in range(len(others), 0, -1):
            for roads in itertools.combinations(others, size):
                if self.is_web(web, roads):
                    self.assertEqual(str(web.closed(indexes)), str(Web(web.origin, web.goal, roads)))
                    return
        self.refuse(NoWay, {}, web.closed, indexes)

    def is_web(self, web, roads):
        try:
            Web(web.origin, web.goal, roads)
        except ValueError:
            return False
        return True

    def test_no_tuples(self):
        for value in odd_values() + [0, "0", [0], [], {0: 0}, range(2)]:
            self.refuse(InvalidIndexes, {"index": None}, self.cross.closed, value)
            self.refuse(InvalidIndexes, {"index": None}, self.cross.closed, indexes=value)

    def test_wrong_elements(self):
        for value in odd_values() + [5, 8, "4", (4,), (), Touchy(), Agreeing()]:
            self.refuse(InvalidIndexes, {"index": 0}, self.cross.closed, (value,))
            self.refuse(InvalidIndexes, {"index": 2}, self.cross.closed, (0, 3, value))
            self.refuse(InvalidIndexes, {"index": 1}, self.cross.closed, (0, value, 0, None))

    def test_not_ascending(self):
        for indexes, at in (((0, 0), 1), ((1, 0), 1), ((0, 2, 1), 2), ((0, 1, 1, 2), 2), ((4, 3, 2), 1),
                            ((0, 3, 2, 5), 2), ((0, 5, 2), 1), ((5, 0), 0), ((0, 1, 2, 3, 4, 4), 5)):
            self.refuse(InvalidIndexes, {"index": at}, self.cross.closed, indexes)

    def test_no_way_left(self):
        for indexes in ((0, 1), (3, 4), (0, 2, 4), (1, 3, 4), (0, 1, 2, 3, 4)):
            self.refuse(NoWay, {}, self.cross.closed, indexes)
        self.refuse(NoWay, {}, self.twins.closed, (0, 1))
        self.refuse(NoWay, {}, self.twins.closed, indexes=(0, 1))
        self.refuse(NoWay, {}, Web("a", "b", (ROAD,)).closed, (0,))

    def test_no_way_comes_last(self):
        self.refuse(InvalidIndexes, {"index": 2}, self.twins.closed, (0, 1, 2))
        self.refuse(InvalidIndexes, {"index": 2}, self.twins.closed, (0, 1, 1))
        self.refuse(InvalidIndexes, {"index": None}, self.twins.closed, [0, 1])


class Turned(Unchanging):
    def test_the_ends_are_exchanged(self):
        self.assertEqual(str(self.twins.turned()), "b a\na b 0 1\na b 2 1")
        web = self.cross.turned()
        self.assertEqual((web.origin, web.goal, web.roads), ("d", "a", CROSS_ROADS))
        self.assertFalse(web == self.cross)

    def test_turned_twice(self):
        self.assertTrue(self.cross.turned().turned() == self.cross)


class Widened(Unchanging):
    def test_the_road_is_the_last_one(self):
        for road in (("a", "d", 0, 0), ("a", "b", 1000000, 1000000), ("b", "c", 10, 1), ("c", "d", 3, 4)):
            self.assertEqual(self.cross.widened(road).roads, CROSS_ROADS + (road,))
            self.assertTrue(self.cross.widened(road=road) == self.cross.widened(road))

    def test_the_eighth_road(self):
        web = Web("b", "a", (ROAD,) * 7).widened(("a", "b", 5, 5))
        self.assertEqual((len(web), web.roads[7], web.origin, web.goal), (8, ("a", "b", 5, 5), "b", "a"))

    def test_what_is_no_road(self):
        wrong = odd_values() + [
            (), ("a", "b"), ("a", "b", 0), ("a", "b", 0, 1, 2), ["a", "b", 0, 1], ("b", "a", 0, 1),
            ("a", "a", 0, 1), ("A", "b", 0, 1), ("a", "b", True, 1), ("a", "b", 0, False),
            ("a", "b", -1, 1), ("a", "b", 0, -1), ("a", "b", 1000001, 1), ("a", "b", 0, 1000001),
            ("a", "b", "0", "1"), (ROAD,), 0, "a b 0 1",
        ]
        for value in wrong:
            self.refuse(InvalidNumber, {"given": value}, self.twins.widened, value)
            self.refuse(InvalidNumber, {"given": value}, self.twins.widened, road=value)
            self.refuse(InvalidNumber, {"given": value}, Web("a", "b", (ROAD,) * 8).widened, value)

    def test_too_many(self):
        full = Web("a", "b", (ROAD,) * 8)
        for road in (ROAD, ("a", "c", 1, 1), ("x", "y", 1, 1)):
            with self.assertRaises(TooMany) as caught:
                full.widened(road)
            self.assertEqual(caught.exception.given, 9)
            self.assertIs(type(caught.exception.given), int)
        self.assertEqual(len(full), 8)

    def test_on_no_way(self):
        for road in (("b", "c", 1, 1), ("a", "c", 1, 1), ("x", "y", 1, 1)):
            self.refuse(NoWay, {}, self.twins.widened, road)
            self.refuse(NoWay, {}, self.twins.widened, road=road)
        self.refuse(NoWay, {}, Web("a", "b", (ROAD,) * 7).widened, ("a", "z", 1, 1))


if __name__ == "__main__":
    unittest.main()
