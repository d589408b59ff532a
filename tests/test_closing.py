import random
import unittest
from fractions import Fraction
from itertools import combinations

from closedroads.closing import (
    best_closing, helping, level_raised, level_without, levels_without, raising_helps,
)
from closedroads.errors import InvalidCost, InvalidNumber, NoWay
from closedroads.pieces import worst_costs
from closedroads.steady import level
from closedroads.webs import Web
from tests.making_read import made_at_random
from tests.own import own_helping, own_level, own_level_closed, pair
from tests.samples import CROSS_TEXT, cross, crossed_webs, made_webs, roads_of, sample_webs, twins

AMOUNTS = ((1, 1000), (1, 3), (6, 1), (45, 7), (1000000, 999))
WORST = ((0, 10), (50, 1), (10, 1))


def worst_webs():
    """Webs with costs by which closing some road helps with the amount 6."""
    return [worst_costs(web)[0] for web in crossed_webs()]


def middles_beside(many):
    """The crossed web with so many middle roads, all of which have to be closed to help most."""
    numbers = (WORST[0], WORST[1]) + (WORST[2],) * many + (WORST[1], WORST[0])
    return Web("a", "d", roads_of("ab ac" + " bc" * many + " bd cd", numbers))


def told(number):
    return None if number is None else pair(number)


class Examples(unittest.TestCase):
    def test_the_examples(self):
        found = [level_without(cross(), 2, (6, 1)), levels_without(twins(), (4, 1)), helping(cross(), (6, 1))]
        self.assertEqual(found, [(83, 1), ((6, 1), (4, 1)), (2,)])
        found = [helping(cross(), (1, 1)), best_closing(cross(), (6, 1), 1), best_closing(twins(), (4, 1), 2)]
        self.assertEqual(found, [(), ((83, 1), ((2,),)), ((3, 1), ((),))])
        self.assertIsNone(level_without(twins().closed((1,)), 0, (1, 1)))
        self.assertEqual(best_closing(cross(), (6, 1), 0), ((92, 1), ((),)))
        found = [level_raised(cross(), 2, (6, 1), 3), level_raised(cross(), 2, (6, 1), 1000)]
        self.assertEqual(found, [(1169, 13), (83, 1)])
        self.assertEqual(level_raised(twins(), 0, (4, 1), 2), (4, 1))
        self.assertIs(raising_helps(cross(), 2, (6, 1), 3), True)
        self.assertIs(raising_helps(cross(), 0, (6, 1), 3), False)
        self.assertIs(raising_helps(twins(), 0, (4, 1), 0), False)

    def test_by_name(self):
        self.assertEqual(level_without(amount=(6, 1), index=2, web=cross()), (83, 1))
        self.assertEqual(levels_without(amount=(4, 1), web=twins()), ((6, 1), (4, 1)))
        self.assertEqual(helping(amount=(6, 1), web=cross()), (2,))
        self.assertEqual(level_raised(by=3, amount=(6, 1), index=2, web=cross()), (1169, 13))
        self.assertIs(raising_helps(by=3, amount=(6, 1), index=2, web=cross()), True)
        self.assertEqual(best_closing(most=1, amount=(6, 1), web=cross()), ((83, 1), ((2,),)))


class Closing(unittest.TestCase):
    def check(self, web, amount):
        levels = [own_level_closed(web, (index,), amount) for index in range(len(web))]
        self.assertEqual(levels_without(web, amount), tuple([told(number) for number in levels]))
        for index, number in enumerate(levels):
            self.assertEqual(level_without(web, index, amount), told(number))
            self.assertEqual(told(number), self.by_closed(web, index, amount))
        self.assertEqual(helping(web, amount), own_helping(web, amount))

    def by_closed(self, web, index, amount):
        """The level of the web that `closed` tells."""
        try:
            return level(web.closed((index,)), amount)
        except NoWay:
            return None

    def test_each_road_of_webs_of_all_sizes(self):
        for web in sample_webs() + worst_webs() + [middles_beside(many) for many in (1, 2, 3, 4)]:
            for amount in AMOUNTS:
                with self.subTest(web=str(web), amount=amount):
                    self.check(web, amount)

    def test_a_road_without_which_no_way_is_left(self):
        web = Web("a", "c", roads_of("ab bc ab", ((1, 1), (2, 3), (0, 5))))
        self.assertEqual(levels_without(web, (2, 1)), ((18, 1), None, (11, 1)))
        self.assertEqual([level_without(web, 1, (2, 1)), helping(web, (2, 1))], [None, ()])
        lonely = Web("a", "b", (("a", "b", 3, 1),))
        self.assertEqual([levels_without(lonely, (2, 1)), helping(lonely, (2, 1))], [(None,), ()])

    def test_others_that_then_lie_on_no_way(self):
        web = Web("a", "e", roads_of("ab bc ce ae ae", ((0, 1), (0, 1), (0, 1), (7, 1), (8, 1))))
        self.assertEqual(levels_without(web, (2, 1))[:3], (level(web.closed((0, 1, 2)), (2, 1)),) * 3)
        self.assertEqual(levels_without(web, (2, 1))[:3], ((17, 2),) * 3)

    def test_made_webs_are_never_helped(self):
        for web in made_webs() + [made_at_random(seed)[0] for seed in range(200)]:
            for amount in AMOUNTS:
                self.assertEqual(helping(web, amount), (), str(web))

    def test_webs_with_the_costs_that_worst_costs_tells(self):
        for web in crossed_webs() + [web.turned() for web in crossed_webs()]:
            worst, index = worst_costs(web)
            self.assertIn(index, helping(worst, (6, 1)))
            self.assertEqual([level(worst, (6, 1)), level_without(worst, index, (6, 1))], [(92, 1), (83, 1)])
            self.assertEqual(levels_without(worst, (6, 1))[index], (83, 1))

    def test_the_crossed_web_at_many_amounts(self):
        # By hand: with its middle road all pay 21 x + 10 up to 40/11, then (31 x + 1010) / 13 up to
        # 80/9; without it 11 x / 2 + 50. So it helps from 80/31 to 80/9, both left out.
        low, high = Fraction(80, 31), Fraction(80, 9)
        amounts = [Fraction(at, 4) for at in range(1, 80)] + [low, high, Fraction(40, 11), Fraction(40, 3)]
        amounts += [border + move for border in (low, high) for move in (Fraction(1, 31), -Fraction(1, 31))]
        for amount in amounts:
            self.assertEqual(helping(cross(), pair(amount)), (2,) if low < amount < high else (), amount)
            self.assertEqual(level_without(cross(), 2, pair(amount)), pair(amount * 11 / 2 + 50))


class Raising(unittest.TestCase):
    def check(self, web, index, amount, by):
        x, y, base, rise = web.roads[index]
        roads = web.roads[:index] + ((x, y, base + by, rise),) + web.roads[index + 1:]
        number = own_level(Web(web.origin, web.goal, roads), amount)
        self.assertEqual(level_raised(web, index, amount, by), pair(number))
        self.assertEqual(level_raised(web, index, amount, by), level(web.costing(index, base + by, rise), amount))
        helps = raising_helps(web, index, amount, by)
        self.assertIs(helps, number < own_level(web, amount))
        return helps

    def numbers(self, base):
        """What a road with this A may cost more: from nothing to the most that goes."""
        return sorted({by for by in (0, 1, 7, 1000, 1000000) if base + by <= 1000000} | {1000000 - base})

    def test_each_road_of_many_webs(self):
        for web in sample_webs():
            for index, road in enumerate(web.roads):
                for by in self.numbers(road[2]):
                    for amount in ((1, 3), (6, 1)):
                        with self.subTest(web=str(web), index=index, by=by, amount=amount):
                            self.check(web, index, amount, by)

    def test_by_nothing(self):
        for web in sample_webs() + worst_webs():
            for index in range(len(web)):
                self.assertEqual(level_raised(web, index, (6, 1), 0), level(web, (6, 1)))
                self.assertIs(raising_helps(web, index, (6, 1), 0), False)

    def test_the_middle_road_of_crossing_pieces(self):
        for web in crossed_webs():
            worst, index = worst_costs(web)
            for by in (1, 2, 3, 30):
                self.assertIs(self.check(worst, index, (6, 1), by), True)
            # Nobody goes there then, so it is as if the road were closed.
            self.assertEqual(level_raised(worst, index, (6, 1), 999990), (83, 1))

    def test_made_webs_are_never_helped(self):
        chance = random.Random(3)
        for web in made_webs() + [made_at_random(seed)[0] for seed in range(120)]:
            for index, road in enumerate(web.roads):
                by = chance.choice([1, 2, 1000000 - road[2]]) % (1000001 - road[2])
                self.assertIs(raising_helps(web, index, pair(Fraction(chance.randint(1, 40), 3)), by), False)

    def test_the_most_that_goes(self):
        web = cross().costing(0, 999990, 3)
        self.assertEqual(level_raised(web, 0, (6, 1), 10), level(web.costing(0, 1000000, 3), (6, 1)))
        self.assertEqual(level_raised(twins(), 0, (4, 1), 1000000), (6, 1))
        for call in (level_raised, raising_helps):
            for road, by in ((0, 11), (0, 1000000), (1, 999951), (2, 999991), (4, 1000001), (4, -1), (0, True)):
                with self.assertRaises(InvalidCost) as caught:
                    call(web, road, (6, 1), by)
                self.assertIs(caught.exception.given, by)
            call(web, 4, (6, 1), 1000000)


class BestClosing(unittest.TestCase):
    def by_all_lots(self, web, amount, most):
        """The least level of all lots and the shortest lots that bring it, each lot gone through."""
        lots = [lot for many in range(most + 1) for lot in combinations(range(len(web)), many)]
        levels = {lot: own_level_closed(web, lot, amount) for lot in lots}
        least = min([number for number in levels.values() if number is not None])
        right = [lot for lot in lots if levels[lot] == least]
        shortest = min([len(lot) for lot in right])
        return (pair(least), tuple(sorted([lot for lot in right if len(lot) == shortest])))

    def check(self, web, amount, most):
        found = best_closing(web, amount, most)
        self.assertEqual(found, self.by_all_lots(web, amount, most))
        self.assertEqual(list(found[1]), sorted(set(found[1])))
        return found

    def test_webs_of_all_sizes(self):
        for web in sample_webs() + worst_webs():
            for amount in ((1, 3), (6, 1), (77, 5)):
                for most in range(4):
                    with self.subTest(web=str(web), amount=amount, most=most):
                        self.check(web, amount, most)

    def test_made_webs_are_best_as_they_are(self):
        for web in made_webs():
            for most in range(4):
                self.assertEqual(best_closing(web, (6, 1), most), (level(web, (6, 1)), ((),)))

    def test_middle_roads_beside_one_another(self):
        told = {many: self.check(middles_beside(many), (6, 1), many) for many in (1, 2, 3)}
        self.assertEqual(told[1], ((83, 1), ((2,),)))
        self.assertEqual(told[2], ((83, 1), ((2, 3),)))
        self.assertEqual(told[3], ((83, 1), ((2, 3, 4),)))
        # One of two alike may be closed, so both lots are told; with more allowed none of them is.
        fewer = self.check(middles_beside(2), (6, 1), 1)
        self.assertEqual(fewer, ((92, 1), ((2,), (3,))))
        self.assertEqual(self.check(middles_beside(3), (6, 1), 2)[1], ((2, 3), (2, 4), (3, 4)))
        self.assertEqual(self.check(middles_beside(4), (6, 1), 3)[1], tuple(combinations(range(2, 6), 3)))

    def test_rows_of_which_any_road_may_be_closed(self):
        # The middle road parted in two: closing either half is as good, and both no better.
        numbers = ((0, 10), (50, 1), (10, 1), (0, 0), (50, 1), (0, 10))
        web = Web("a", "d", roads_of("ab ac be ce bd cd", numbers))
        for most in (1, 2, 3):
            self.assertEqual(self.check(web, (6, 1), most), ((83, 1), ((2,), (3,))))

    def test_lots_that_leave_no_way(self):
        web = Web("a", "b", (("a", "b", 4, 3), ("a", "b", 5, 3)))
        self.assertEqual(self.check(web, (1, 1), 3), ((6, 1), ((),)))

    def test_the_numbers_that_go(self):
        for most in (4, -1, 10 ** 50, True, False, "1", None, (1,), [1]):
            with self.assertRaises(InvalidNumber) as caught:
                best_closing(cross(), (6, 1), most)
            self.assertIs(caught.exception.given, most)


class AskedAgain(unittest.TestCase):
    CALLS = (
        lambda web: level_without(web, 0, (6, 1)), lambda web: levels_without(web, (6, 1)),
        lambda web: helping(web, (6, 1)), lambda web: level_raised(web, 0, (6, 1), 0),
        lambda web: raising_helps(web, len(web) - 1, (6, 1), 0), lambda web: best_closing(web, (6, 1), 2),
    )

    def test_by_turns_and_of_webs_made_anew(self):
        for web in sample_webs() + [cross()]:
            text = str(web)
            first = [call(web) for call in self.CALLS]
            self.assertEqual([call(web) for call in self.CALLS[::-1]][::-1], first)
            self.assertEqual([call(Web.told(text)) for call in self.CALLS], first)
            self.assertEqual(str(web), text)
        self.assertEqual(str(cross()), CROSS_TEXT)


if __name__ == "__main__":
    unittest.main()
