import random
import unittest
from fractions import Fraction
from math import gcd

from closedroads.loads import carried, is_steady, road_loads
from closedroads.steady import steady
from closedroads.totals import are_best, best_loads, least_total, tolls, total, waste
from closedroads.webs import Web
from tests.own import (
    Doubled, level_shown, own_amount, own_excess, own_loads, own_price, own_total, own_ways, own_waste, pair, pairs,
)
from tests.samples import CROSS_TEXT, cross, crossed_webs, roads_of, sample_webs, twins
from tests.test_loads import some_loads

AMOUNTS = ((1, 1000), (1, 3), (6, 1), (45, 7), (1000000, 999))
CALM = (((0, 2, 4), 2, 1), ((0, 3), 2, 1), ((1, 4), 2, 1))


def dealt(web, amount, chance):
    """Loads with this amount, dealt out to some of the ways."""
    lines = own_ways(web)
    used = sorted(chance.sample(lines, chance.randint(1, len(lines))))
    parts = [chance.randint(1, 9) for _ in used]
    shares = [Fraction(*amount) * part / sum(parts) for part in parts]
    return tuple([(way,) + pair(share) for way, share in zip(used, shares)])


def two_roads(rise, base):
    """Two roads, with the costs rise x and base."""
    return Web("a", "b", (("a", "b", 0, rise), ("a", "b", base, 0)))


class Examples(unittest.TestCase):
    def test_the_examples(self):
        self.assertEqual([total(cross(), CALM), least_total(cross(), (6, 1))], [(552, 1), (498, 1)])
        self.assertEqual(best_loads(cross(), (6, 1)), (((0, 3), 3, 1), ((1, 4), 3, 1)))
        self.assertEqual(waste(cross(), (6, 1)), (92, 83))
        self.assertEqual(best_loads(twins(), (4, 1)), (((0,), 5, 2), ((1,), 3, 2)))
        self.assertEqual([tolls(twins(), (4, 1)), waste(twins(), (4, 1))], [((5, 2), (3, 2)), (24, 23)])
        self.assertIs(are_best(cross(), CALM), False)
        self.assertEqual(waste(two_roads(1, 1), (1, 1)), (4, 3))
        self.assertEqual(waste(twins(), (1, 1)), (1, 1))
        self.assertEqual(waste(Web("a", "b", (("a", "b", 0, 0),)), (1, 1)), (1, 1))

    def test_by_name(self):
        self.assertEqual(total(loads=CALM, web=cross()), (552, 1))
        self.assertIs(are_best(loads=CALM, web=cross()), False)
        for call in (best_loads, least_total, tolls, waste):
            self.assertEqual(call(amount=(6, 1), web=cross()), call(cross(), (6, 1)))


class Totals(unittest.TestCase):
    def test_told_loads(self):
        chance = random.Random(21)
        for web in sample_webs():
            for most in (1, 9, 10 ** 20):
                loads = some_loads(web, chance, most)
                with self.subTest(web=str(web), loads=loads):
                    self.assertEqual(total(web, loads), pair(own_total(web, loads)))

    def test_steady_loads(self):
        for web in sample_webs():
            for amount in AMOUNTS:
                loads = steady(web, amount)
                told = level_shown(web, loads, amount) * Fraction(*amount)
                self.assertEqual(total(web, loads), pair(told))

    def test_loads_that_cost_nothing(self):
        web = Web("a", "b", (("a", "b", 0, 0), ("a", "b", 0, 3)))
        self.assertEqual(total(web, (((0,), 5, 3),)), (0, 1))
        self.assertEqual(total(web, (((0,), 5, 3), ((1,), 1, 2))), (3, 4))


class Best(unittest.TestCase):
    def check(self, web, amount, chance):
        loads = best_loads(web, amount)
        ways = [load[0] for load in loads]
        self.assertEqual(ways, sorted(set(ways)))
        for _, top, bottom in loads:
            self.assertTrue(top > 0 and bottom > 0 and gcd(top, bottom) == 1)
        self.assertEqual(carried(web, loads), amount)
        # Best loads are just the steady ones where all B count twice.
        level_shown(Doubled(web), loads, amount)
        least = own_total(web, loads)
        self.assertEqual(least_total(web, amount), pair(least))
        self.assertIs(are_best(web, loads), True)
        for other in [dealt(web, amount, chance) for _ in range(6)] + [steady(web, amount)]:
            self.assertEqual(own_amount(other), Fraction(*amount))
            self.assertLessEqual(least, own_total(web, other))
            self.assertIs(are_best(web, other), own_total(web, other) == least)
        self.check_tolls(web, amount, loads)
        self.assertEqual(waste(web, amount), pair(own_waste(web, amount)))
        self.assertTrue(1 <= Fraction(*waste(web, amount)) <= Fraction(4, 3))

    def check_tolls(self, web, amount, loads):
        told = [road[3] * load for road, load in zip(web.roads, own_loads(web, loads))]
        self.assertEqual(tolls(web, amount), pairs(told))
        # With the tolls added to what roads cost the best loads are steady.
        prices = {}
        for way in own_ways(web):
            prices[way] = own_price(web, loads, way) + sum([Fraction(*tolls(web, amount)[at]) for at in way])
        for load in loads:
            self.assertEqual(prices[load[0]], min(prices.values()))

    def test_webs_of_all_sizes_and_amounts(self):
        chance = random.Random(22)
        for web in sample_webs():
            for amount in AMOUNTS:
                with self.subTest(web=str(web), amount=amount):
                    self.check(web, amount, chance)

    def test_doubled_webs(self):
        for web in sample_webs():
            if all(road[3] <= 500000 for road in web.roads):
                double = Web(web.origin, web.goal, Doubled(web).roads)
                self.assertIs(is_steady(double, best_loads(web, (7, 2))), True)
                best = steady(double, (7, 2))
                self.assertEqual(total(web, best), least_total(web, (7, 2)))
                self.assertIs(are_best(web, best), True)

    def test_the_greatest_costs(self):
        chance = random.Random(23)
        for web in sample_webs():
            numbers = [(chance.choice((0, 1000000)), chance.choice((0, 999983, 1000000))) for _ in web.roads]
            roads = [road[:2] + pair for road, pair in zip(web.roads, numbers)]
            self.check(Web(web.origin, web.goal, tuple(roads)), (1000000, 1), chance)

    def test_loads_that_are_best_or_not(self):
        chance = random.Random(24)
        found = {True: 0, False: 0}
        for web in sample_webs():
            for loads in [some_loads(web, chance, 3) for _ in range(5)]:
                told = are_best(web, loads)
                self.assertIs(told, own_excess(Doubled(web), loads) == 0)
                found[told] += 1
        self.assertTrue(min(found.values()) > 20, found)

    def test_best_loads_of_amounts_beyond_the_limits(self):
        for times in (10 ** 30, Fraction(1, 10 ** 30)):
            loads = (((0,),) + pair(Fraction(1) * times), ((1,),) + pair(Fraction(1) * times))
            web = Web("a", "b", (("a", "b", 0, 3), ("a", "b", 0, 3)))
            self.assertIs(are_best(web, loads), True)
            self.assertIs(are_best(web.costing(1, 0, 4), loads), False)

    def test_other_loads_that_are_best_too(self):
        # The same roads carry the same, though by other ways.
        web = Web("a", "c", roads_of("ab ab bc bc", ((0, 1),) * 4))
        straight = (((0, 2), 1, 1), ((1, 3), 1, 1))
        across = (((0, 3), 1, 1), ((1, 2), 1, 1))
        self.assertEqual([are_best(web, straight), are_best(web, across)], [True, True])
        self.assertEqual(road_loads(web, best_loads(web, (2, 1))), ((1, 1),) * 4)
        self.assertIs(are_best(web, straight[:1]), False)

    def test_turned(self):
        for web in sample_webs():
            for amount in AMOUNTS:
                for call in (least_total, tolls, waste):
                    self.assertEqual(call(web.turned(), amount), call(web, amount))
            loads = best_loads(web, (6, 1))
            back = tuple(sorted([(way[::-1], top, bottom) for way, top, bottom in loads]))
            self.assertEqual(total(web.turned(), back), total(web, loads))
            self.assertIs(are_best(web.turned(), back), True)


class Waste(unittest.TestCase):
    def test_all_a_or_all_b_are_0(self):
        for web in sample_webs():
            for bases, rises in ((0, 1), (1, 0), (0, 0)):
                roads = [(x, y, base * bases, rise * rises) for x, y, base, rise in web.roads]
                for amount in AMOUNTS:
                    self.assertEqual(waste(Web(web.origin, web.goal, tuple(roads)), amount), (1, 1))

    def test_two_roads_by_hand(self):
        for rise in (1, 2, 5, 1000000):
            for base in (0, 1, 3, 7, 1000000):
                for amount in (Fraction(1, 1000), Fraction(1, 2), Fraction(1), Fraction(3, 2), Fraction(40)):
                    with self.subTest(rise=rise, base=base, amount=amount):
                        self.check(rise, base, amount)

    def check(self, rise, base, amount):
        # Drivers go over the first road until it costs as much as the other one; it is best that
        # they do so until twice the load does.
        first = min(amount, Fraction(base, rise))
        now = first * first * rise + (amount - first) * base
        best = min(amount, Fraction(base, 2 * rise))
        least = best * best * rise + (amount - best) * base
        web = two_roads(rise, base)
        told = [least_total(web, pair(amount)), tolls(web, pair(amount)), total(web, steady(web, pair(amount)))]
        self.assertEqual(told, [pair(least), (pair(best * rise), (0, 1)), pair(now)])
        shares = [((at,),) + pair(share) for at, share in enumerate((best, amount - best)) if share > 0]
        self.assertEqual(best_loads(web, pair(amount)), tuple(shares))
        self.assertEqual(waste(web, pair(amount)), pair(now / least) if least else (1, 1))

    def test_the_most(self):
        for rise, base, amount in ((1, 1, (1, 1)), (1, 7, (7, 1)), (3, 2, (2, 3)), (1000, 1000000, (1000, 1))):
            self.assertEqual(waste(two_roads(rise, base), amount), (4, 3))
            for beside in ((amount[0] * 2 + 1, amount[1] * 2), (amount[0] * 2 - 1, amount[1] * 2)):
                self.assertLess(Fraction(*waste(two_roads(rise, base), pair(Fraction(*beside)))), Fraction(4, 3))

    def test_nothing_to_pay(self):
        free = Web("a", "c", roads_of("ab bc ac", ((0, 0), (0, 0), (5, 5))))
        self.assertEqual([waste(free, (9, 2)), least_total(free, (9, 2))], [(1, 1), (0, 1)])
        self.assertEqual([tolls(free, (9, 2)), best_loads(free, (9, 2))], [((0, 1),) * 3, (((0, 1), 9, 2),)])

    def test_the_crossed_web(self):
        # By hand: with 6 the best is 3 and 3; with 1 all go over the middle road.
        self.assertEqual(tolls(cross(), (6, 1)), ((30, 1), (3, 1), (0, 1), (3, 1), (30, 1)))
        self.assertEqual([least_total(cross(), (1, 1)), waste(cross(), (1, 1))], [(31, 1), (1, 1)])
        self.assertEqual(tolls(cross(), (1, 1)), ((10, 1), (0, 1), (1, 1), (0, 1), (10, 1)))


class AskedAgain(unittest.TestCase):
    CALLS = (best_loads, least_total, tolls, waste)

    def test_by_turns_and_of_webs_made_anew(self):
        for web in sample_webs() + crossed_webs():
            text = str(web)
            first = [call(web, (9, 4)) for call in self.CALLS]
            sums = [total(web, first[0]), are_best(web, first[0])]
            self.assertEqual([call(web, (9, 4)) for call in self.CALLS[::-1]][::-1], first)
            self.assertEqual([call(Web.told(text), (9, 4)) for call in self.CALLS], first)
            self.assertEqual([total(Web.told(text), first[0]), are_best(Web.told(text), first[0])], sums)
            self.assertEqual(str(web), text)
        self.assertEqual(str(cross()), CROSS_TEXT)


if __name__ == "__main__":
    unittest.main()
