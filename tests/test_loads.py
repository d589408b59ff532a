import random
import unittest
from fractions import Fraction
from math import gcd

from closedroads.loads import carried, excess, is_steady, road_costs, road_loads, way_cost
from closedroads.webs import Web
from tests.own import own_amount, own_costs, own_excess, own_loads, own_price, own_ways, pair, pairs
from tests.samples import cross, roads_of, sample_webs, twins

CALM = (((0, 2, 4), 2, 1), ((0, 3), 2, 1), ((1, 4), 2, 1))


def some_loads(web, chance, most=9):
    """Loads of some of the ways of a web, ascending."""
    lines = own_ways(web)
    used = sorted(chance.sample(lines, chance.randint(1, len(lines))))
    return tuple([(way,) + pair(Fraction(chance.randint(1, most), chance.randint(1, most))) for way in used])


class Sums(unittest.TestCase):
    def test_the_examples(self):
        web = cross()
        self.assertEqual(carried(web, CALM), (6, 1))
        self.assertEqual(road_loads(web, CALM), ((4, 1), (2, 1), (2, 1), (2, 1), (4, 1)))
        self.assertEqual(road_costs(web, CALM), ((40, 1), (52, 1), (12, 1), (52, 1), (40, 1)))
        self.assertEqual(way_cost(web, CALM, (1, 2, 3)), (116, 1))
        self.assertEqual([is_steady(web, CALM), excess(web, CALM)], [True, (0, 1)])
        self.assertEqual([is_steady(twins(), (((0,), 1, 2),)), excess(twins(), (((1,), 1, 2),))], [True, (5, 2)])

    def check(self, web, loads):
        with self.subTest(web=str(web), loads=loads):
            self.assertEqual(carried(web, loads), pair(own_amount(loads)))
            self.assertEqual(road_loads(web, loads), pairs(own_loads(web, loads)))
            self.assertEqual(road_costs(web, loads), pairs(own_costs(web, loads)))
            for way in own_ways(web):
                self.assertEqual(way_cost(web, loads, way), pair(own_price(web, loads, way)))
            self.assertEqual(excess(web, loads), pair(own_excess(web, loads)))
            self.assertIs(is_steady(web, loads), own_excess(web, loads) == 0)
            told = [carried(web, loads), excess(web, loads), *road_loads(web, loads), *road_costs(web, loads)]
            for top, bottom in told:
                self.assertEqual((type(top), type(bottom), gcd(top, bottom)), (int, int, 1))
                self.assertGreater(bottom, 0)

    def test_many_loads_of_many_webs(self):
        chance = random.Random(1)
        for web in sample_webs():
            for most in (1, 9, 9, 10 ** 30):
                self.check(web, some_loads(web, chance, most))

    def test_roads_without_loads(self):
        web = cross()
        loads = (((0, 3), 3, 2),)
        self.assertEqual(road_loads(web, loads), ((3, 2), (0, 1), (0, 1), (3, 2), (0, 1)))
        self.assertEqual(road_costs(web, loads), ((15, 1), (50, 1), (10, 1), (103, 2), (0, 1)))
        self.check(web, loads)

    def test_sums_come_in_lowest_terms(self):
        loads = (((0,), 1, 6), ((1,), 1, 3))
        self.assertEqual(carried(twins(), loads), (1, 2))
        self.assertEqual(road_costs(twins(), loads), ((1, 6), (7, 3)))
        half = Web("a", "b", (("a", "b", 1, 3), ("a", "b", 0, 2)))
        self.assertEqual(road_costs(half, (((0,), 1, 3), ((1,), 1, 2))), ((2, 1), (1, 1)))
        self.assertEqual(excess(half, (((0,), 1, 6), ((1,), 1, 2))), (1, 2))

    def test_a_road_gone_both_ways_carries_both_together(self):
        web = cross()
        loads = (((0, 2, 4), 1, 2), ((1, 2, 3), 1, 3))
        self.assertEqual(road_loads(web, loads)[2], (5, 6))
        self.assertEqual(road_costs(web, loads)[2], (65, 6))
        self.check(web, loads)

    def test_by_name(self):
        web = cross()
        self.assertEqual(carried(loads=CALM, web=web), carried(web, CALM))
        self.assertEqual(road_loads(loads=CALM, web=web), road_loads(web, CALM))
        self.assertEqual(road_costs(loads=CALM, web=web), road_costs(web, CALM))
        self.assertEqual(way_cost(way=(1, 4), loads=CALM, web=web), (92, 1))
        self.assertEqual(excess(loads=CALM, web=web), (0, 1))
        self.assertIs(is_steady(loads=CALM, web=web), True)


class Steadiness(unittest.TestCase):
    def steady(self, web, *loads):
        self.assertEqual((is_steady(web, loads), excess(web, loads)), (True, (0, 1)), (str(web), loads))

    def unsteady(self, told, web, *loads):
        self.assertEqual((is_steady(web, loads), excess(web, loads)), (False, told), (str(web), loads))

    def test_worked_out_by_hand(self):
        self.steady(cross(), ((0, 2, 4), 1, 1))
        self.steady(cross(), ((0, 2, 4), 40, 11))
        self.steady(cross(), ((0, 3), 5, 1), ((1, 4), 5, 1))
        # From the amount 40/3 on the road of b and c is gone from c to b.
        self.steady(cross(), ((0, 3), 20, 3), ((1, 4), 20, 3))
        self.steady(cross(), ((0, 3), 100, 13), ((1, 2, 3), 60, 13), ((1, 4), 100, 13))
        self.steady(twins(), ((0,), 2, 1))
        self.steady(twins(), ((0,), 5, 2), ((1,), 1, 2))
        self.steady(Web("a", "c", (("a", "b", 4, 7), ("b", "c", 5, 0))), ((0, 1), 3, 8))

    def test_the_same_with_some_of_it_moved(self):
        self.unsteady((13, 1), cross(), ((0, 2, 4), 4, 1), ((0, 3), 1, 1), ((1, 4), 1, 1))
        self.unsteady((13, 2), cross(), ((0, 2, 4), 1, 1), ((0, 3), 5, 2), ((1, 4), 5, 2))
        self.unsteady((12, 1), cross(), ((0, 2, 4), 1, 1), ((0, 3), 3, 1), ((1, 4), 2, 1))
        self.unsteady((13, 1), cross(), ((0, 3), 3, 1), ((1, 4), 3, 1))
        self.unsteady((1, 1), twins(), ((0,), 2, 1), ((1,), 1, 1))
        self.unsteady((1, 2), twins(), ((0,), 5, 2))
        self.unsteady((1, 1), twins(), ((0,), 3, 1))

    def test_moving_along_roads_on_which_costs_do_not_rise(self):
        web = Web("a", "b", (("a", "b", 5, 0), ("a", "b", 5, 0), ("a", "b", 6, 0)))
        self.steady(web, ((0,), 3, 1))
        self.steady(web, ((1,), 3, 1))
        self.steady(web, ((0,), 1, 7), ((1,), 20, 7))
        self.unsteady((1, 1), web, ((0,), 1, 7), ((1,), 1, 7), ((2,), 1, 1000))
        # b and c are one place as far as costs go, so the roads of b, c and d are gone as one likes.
        free = Web("a", "d", (("a", "b", 0, 1), ("b", "c", 0, 0), ("b", "d", 0, 0), ("c", "d", 0, 0)))
        self.steady(free, ((0, 1, 3), 1, 1))
        self.steady(free, ((0, 2), 1, 1))
        self.steady(free, ((0, 1, 3), 1, 3), ((0, 2), 2, 3))

    def test_equal_roads_beside_one_another(self):
        web = Web("a", "b", (("a", "b", 3, 4),) * 4)
        self.steady(web, *[((index,), 2, 3) for index in range(4)])
        self.unsteady((8, 3), web, *[((index,), 2, 3) for index in range(3)])
        self.unsteady((8, 3), web, ((0,), 2, 3), ((1,), 2, 3), ((2,), 1, 3), ((3,), 1, 1))

    def test_a_cheaper_way_without_a_load_counts(self):
        self.unsteady((6, 1), Web("a", "b", (("a", "b", 7, 1), ("a", "b", 2, 0))), ((0,), 1, 1))
        # A way that goes a loaded road the other way round.
        numbers = ((9, 0), (0, 0), (0, 1), (0, 0), (9, 0))
        web = Web("a", "d", roads_of("ab ac bc bd cd", numbers))
        self.unsteady((18, 1), web, ((0, 2, 4), 1, 1))

    def test_origin_and_goal_exchanged(self):
        chance = random.Random(2)
        for web in sample_webs():
            loads = some_loads(web, chance)
            back = tuple(sorted([(way[::-1], top, bottom) for way, top, bottom in loads]))
            self.assertEqual(road_costs(web.turned(), back), road_costs(web, loads))
            self.assertEqual(excess(web.turned(), back), excess(web, loads))
            self.assertIs(is_steady(web.turned(), back), is_steady(web, loads))

    def test_asked_twice_and_of_webs_made_anew(self):
        chance = random.Random(3)
        for web in sample_webs():
            loads = some_loads(web, chance)
            same = tuple([tuple(load) for load in map(list, loads)])
            for call in (carried, road_loads, road_costs, excess, is_steady):
                self.assertEqual(call(web, loads), call(Web.told(str(web)), same))


if __name__ == "__main__":
    unittest.main()
