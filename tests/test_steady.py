import random
import unittest
from fractions import Fraction
from math import gcd

from closedroads.loads import carried, excess, is_steady, road_costs
from closedroads.steady import cheap_roads, cheapest, costs, level, steady
from closedroads.webs import Web
from tests.own import own_amount, own_costs, own_ways, pair, pairs
from tests.samples import cross, made_webs, roads_of, sample_webs, twins

AMOUNTS = ((1, 1000), (1, 3), (1, 1), (7, 5), (6, 1), (120, 1), (999999, 1000), (1000000, 1), (1000000, 999))


def number(fraction):
    return Fraction(*fraction)


class Examples(unittest.TestCase):
    def test_the_examples(self):
        told = [steady(cross(), (6, 1)), level(cross(), (6, 1)), level(cross().closed((2,)), (6, 1))]
        calm = (((0, 2, 4), 2, 1), ((0, 3), 2, 1), ((1, 4), 2, 1))
        self.assertEqual(told, [calm, (92, 1), (83, 1)])
        told = [level(twins(), (4, 1)), steady(twins(), (4, 1)), level(twins(), (1, 2))]
        self.assertEqual(told, [(3, 1), (((0,), 3, 1), ((1,), 1, 1)), (1, 2)])
        told = [cheapest(cross(), (1, 1)), costs(twins(), (4, 1)), costs(twins(), (1, 1))]
        self.assertEqual(told, [((0, 2, 4),), ((3, 1), (3, 1)), ((1, 1), (2, 1))])
        told = [cheap_roads(twins(), (2, 1)), cheap_roads(twins(), (1, 1)), level(cross(), (1, 1))]
        self.assertEqual(told, [(0, 1), (0,), (31, 1)])

    def test_by_name(self):
        for call in (steady, level, costs, cheapest, cheap_roads):
            self.assertEqual(call(amount=(6, 1), web=cross()), call(cross(), (6, 1)))


class ManyWebs(unittest.TestCase):
    def check_loads(self, web, amount, loads):
        self.assertIs(type(loads), tuple)
        lines = [load[0] for load in loads]
        self.assertEqual(lines, sorted(set(lines)))
        self.assertTrue(set(lines) <= set(own_ways(web)))
        for way, top, bottom in loads:
            self.assertEqual((type(way), type(top), type(bottom)), (tuple, int, int))
            self.assertTrue(top > 0 and bottom > 0 and gcd(top, bottom) == 1)
        self.assertEqual(own_amount(loads), number(amount))

    def check(self, web, amount):
        """All that is told of a web with an amount, against sums of the test's own."""
        loads = steady(web, amount)
        self.check_loads(web, amount, loads)
        paid = own_costs(web, loads)
        prices = {way: sum([paid[index] for index in way], Fraction(0)) for way in own_ways(web)}
        least = min(prices.values())
        for way, _, _ in loads:
            self.assertEqual(prices[way], least)
        cheap = tuple(sorted(way for way in prices if prices[way] == least))
        self.assertEqual(level(web, amount), pair(least))
        self.assertEqual(costs(web, amount), pairs(paid))
        self.assertEqual(cheapest(web, amount), cheap)
        self.assertEqual(cheap_roads(web, amount), tuple(sorted(set(sum(cheap, ())))))
        # What this package returns may be passed to it.
        self.assertEqual(carried(web, loads), amount)
        self.assertIs(is_steady(web, loads), True)
        self.assertEqual((excess(web, loads), road_costs(web, loads)), ((0, 1), costs(web, amount)))

    def test_webs_of_all_sizes_and_amounts(self):
        for web in sample_webs():
            for amount in AMOUNTS:
                with self.subTest(web=str(web), amount=amount):
                    self.check(web, amount)

    def test_costs_from_nothing_to_the_most(self):
        chance = random.Random(4)
        shapes = [(web.origin, web.goal, [road[:2] for road in web.roads]) for web in sample_webs()]
        for origin, goal, ends in shapes:
            for pool in ((0, 1000000), (0, 0, 0, 1), (0, 1, 2, 999983, 1000000)):
                web = Web(origin, goal, tuple([(x, y, chance.choice(pool), chance.choice(pool)) for x, y in ends]))
                top, bottom = chance.randint(1, 1000000), chance.randint(1, 1000)
                with self.subTest(str(web)):
                    self.check(web, pair(Fraction(top, bottom)))

    def test_nothing_costs_anything(self):
        for web in sample_webs():
            free = Web(web.origin, web.goal, tuple([road[:2] + (0, 0) for road in web.roads]))
            self.check(free, (7, 3))
            self.assertEqual((level(free, (7, 3)), cheapest(free, (7, 3))), ((0, 1), own_ways(web)))
            self.assertEqual(costs(free, (7, 3)), ((0, 1),) * len(web))

    def test_large_fractions(self):
        numbers = ((999983, 999979), (999961, 999959), (999953, 999931), (999917, 999907), (999883, 999863))
        web = Web("a", "d", roads_of("ab ac bc bd cd", numbers))
        self.check(web, (999773, 997))

    def test_turning_renaming_and_reordering(self):
        chance = random.Random(5)
        for web in sample_webs():
            letters = chance.sample("abcdefghijklmnopqrstuvwxyz", 26)
            order = chance.sample(range(len(web)), len(web))
            named = {place: letters[at] for at, place in enumerate(web.places)}
            roads = [tuple(sorted([named[x], named[y]])) + (base, rise) for x, y, base, rise in web.roads]
            other = Web(named[web.origin], named[web.goal], tuple([roads[at] for at in order]))
            for amount in ((1, 3), (6, 1), (1000, 7)):
                told = costs(web, amount)
                self.assertEqual(level(other, amount), level(web, amount), str(web))
                self.assertEqual(costs(other, amount), tuple([told[at] for at in order]), str(web))
                self.assertEqual(level(web.turned(), amount), level(web, amount), str(web))
                self.assertEqual(costs(web.turned(), amount), told, str(web))

    def test_the_level_does_not_fall_as_the_amount_rises(self):
        amounts = [Fraction(1, 1000)] + [Fraction(at, 3) for at in range(1, 60)] + [Fraction(1000000)]
        for web in sample_webs():
            told = [number(level(web, pair(amount))) for amount in amounts]
            self.assertEqual(told, sorted(told), str(web))

    def test_so_many_times_the_costs(self):
        for web in sample_webs():
            for times in (2, 7, 1000):
                roads = [(x, y, base % 1000, rise % 1000) for x, y, base, rise in web.roads]
                more = [(x, y, base * times, rise * times) for x, y, base, rise in roads]
                told = number(level(Web(web.origin, web.goal, tuple(roads)), (7, 2)))
                self.assertEqual(number(level(Web(web.origin, web.goal, tuple(more)), (7, 2))), told * times)

    def test_asked_twice_and_of_webs_made_anew(self):
        for web in sample_webs():
            text = str(web)
            for call in (steady, level, costs, cheapest, cheap_roads):
                first = call(web, (5, 2))
                self.assertEqual(call(web, (5, 2)), first)
                self.assertEqual(call(Web.told(text), (5, 2)), first)
            self.assertEqual(str(web), text)


class ByHand(unittest.TestCase):
    def crossed_level(self, amount):
        """The level of the crossed web of the document, worked out by hand.

        First all go over the middle road, then by three ways, then by the two outer ones, and
        with still more some go over the middle road the other way round.
        """
        if amount <= Fraction(40, 11):
            return 21 * amount + 10
        if amount <= Fraction(80, 9):
            return (31 * amount + 1010) / 13
        if amount <= Fraction(40, 3):
            return Fraction(11, 2) * amount + 50
        return (31 * amount + 1190) / 13

    def crossed_cheap(self, amount):
        """Its cheapest ways; at the borders those of both sides."""
        over = amount <= Fraction(80, 9)
        outer = amount >= Fraction(40, 11)
        back = amount >= Fraction(40, 3)
        told = (((0, 2, 4), over), ((0, 3), outer), ((1, 2, 3), back), ((1, 4), outer))
        return tuple([way for way, is_cheap in told if is_cheap])

    def test_the_crossed_web_up_to_120(self):
        borders = [Fraction(40, 11), Fraction(80, 9), Fraction(40, 3)]
        amounts = [Fraction(at, 2) for at in range(1, 241)] + borders
        for amount in amounts + [border + Fraction(1, 100) for border in borders[1:]]:
            told = level(cross(), pair(amount))
            self.assertEqual(number(told), self.crossed_level(amount), amount)
            self.assertEqual(cheapest(cross(), pair(amount)), self.crossed_cheap(amount), amount)

    def test_without_the_middle_road(self):
        web = cross().closed((2,))
        for amount in range(1, 121):
            self.assertEqual(number(level(web, (amount, 1))), Fraction(11 * amount, 2) + 50)

    def test_steady_loads_at_some_amounts(self):
        self.assertEqual(steady(cross(), (5, 1)), (((0, 2, 4), 35, 13), ((0, 3), 15, 13), ((1, 4), 15, 13)))
        self.assertEqual(steady(cross(), (10, 1)), (((0, 3), 5, 1), ((1, 4), 5, 1)))
        turned = (((0, 3), 100, 13), ((1, 2, 3), 60, 13), ((1, 4), 100, 13))
        self.assertEqual(steady(cross(), (20, 1)), turned)
        self.assertEqual(costs(cross(), (20, 1)), ((1000, 13), (810, 13), (190, 13), (810, 13), (1000, 13)))

    def test_the_two_roads(self):
        for amount in range(1, 60):
            x = Fraction(amount, 6)
            told = x if x <= 2 else (x + 2) / 2
            self.assertEqual(number(level(twins(), pair(x))), told)
            self.assertEqual(cheap_roads(twins(), pair(x)), (0,) if x < 2 else (0, 1))
            self.assertEqual(steady(twins(), (2, 1)), (((0,), 2, 1),))

    def test_roads_that_cost_the_same_whatever_is_on_them(self):
        web = Web("a", "c", roads_of("ab ab bc ac", ((5, 0), (4, 0), (3, 0), (7, 0))))
        for amount in AMOUNTS:
            self.assertEqual((level(web, amount), cheapest(web, amount)), ((7, 1), ((1, 2), (3,))))
            self.assertEqual(costs(web, amount), ((5, 1), (4, 1), (3, 1), (7, 1)))
            self.assertEqual(cheap_roads(web, amount), (1, 2, 3))
        equal = Web("a", "b", (("a", "b", 1, 0), ("a", "b", 1, 0)))
        self.assertEqual((level(equal, (5, 3)), cheapest(equal, (5, 3))), ((1, 1), ((0,), (1,))))
        capped = Web("a", "b", (("a", "b", 0, 1), ("a", "b", 1, 0)))
        self.assertEqual(steady(capped, (5, 2)), (((0,), 1, 1), ((1,), 3, 2)))
        self.assertEqual([level(capped, (1, 2)), level(capped, (5, 2))], [(1, 2), (1, 1)])

    def test_single_and_doubled_roads(self):
        one = Web("a", "b", (("a", "b", 4, 3),))
        self.assertEqual([level(one, (5, 2)), steady(one, (5, 2))], [(23, 2), (((0,), 5, 2),)])
        many = Web("a", "b", (("a", "b", 4, 3),) * 8)
        self.assertEqual(level(many, (4, 1)), (11, 2))
        self.assertEqual(steady(many, (4, 1)), tuple([((index,), 1, 2) for index in range(8)]))
        row = Web("a", "i", roads_of("ab bc cd de ef fg gh hi", [(at, 1) for at in range(8)]))
        self.assertEqual(level(row, (1, 2)), (32, 1))

    def test_roads_gone_both_ways_for_nothing(self):
        web = Web("a", "d", roads_of("ab ac bc bd cd", ((0, 1), (0, 1), (0, 0), (0, 1), (0, 1))))
        self.assertEqual((level(web, (2, 1)), len(cheapest(web, (2, 1)))), ((2, 1), 4))
        self.assertEqual(costs(web, (2, 1)), ((1, 1), (1, 1), (0, 1), (1, 1), (1, 1)))


class MadeWebs(unittest.TestCase):
    """In made webs closing roads or raising costs never makes the level less."""

    def test_closing_each_road(self):
        for web in made_webs():
            for index in range(len(web)):
                if own_ways(web) and any(index not in way for way in own_ways(web)):
                    for amount in ((1, 3), (4, 1), (1000, 3)):
                        fewer = number(level(web.closed((index,)), amount))
                        self.assertGreaterEqual(fewer, number(level(web, amount)), str(web))

    def test_raising_each_cost(self):
        for web in made_webs():
            for index, (_, _, base, rise) in enumerate(web.roads):
                higher = web.costing(index, min(1000000, base + 3), min(1000000, rise + 1))
                for amount in ((1, 3), (4, 1), (1000, 3)):
                    self.assertGreaterEqual(number(level(higher, amount)), number(level(web, amount)))


if __name__ == "__main__":
    unittest.main()
