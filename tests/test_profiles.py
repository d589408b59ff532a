import random
import unittest
from fractions import Fraction
from math import gcd

from closedroads.errors import InvalidAmount, InvalidNumber
from closedroads.profiles import amount_for, is_endless, level_at, profile
from closedroads.steady import level
from closedroads.ways import cost_without, ways
from closedroads.webs import Web
from tests.making_read import made_at_random
from tests.own import own_level, pair
from tests.samples import CROSS_TEXT, cross, crossed_webs, made_webs, roads_of, twins

POOLS = ((0, 1, 2), (0, 0, 3), range(10), (0, 1, 10, 1000000), (1, 999983, 1000000), (0,), range(1, 4))


def block():
    return Web("a", "e", roads_of("ab ab be ae bd de", ((1, 1), (2, 2), (0, 3), (9, 0), (0, 1), (1, 1))))


def made_many():
    """Made webs of one to eight roads, put together behind and beside, with costs of many kinds."""
    chance = random.Random(31)
    webs = made_webs() + [web.turned() for web in made_webs()]
    for seed in range(160):
        web, _ = made_at_random(seed)
        bases, rises = chance.choice(POOLS), chance.choice(POOLS)
        roads = [road[:2] + (chance.choice(bases), chance.choice(rises)) for road in web.roads]
        webs.append(Web(web.origin, web.goal, tuple(roads)))
    return webs


def shape_of(web):
    """The amounts, the levels and the slopes behind each point, all of them Fractions."""
    points, slope = profile(web)
    amounts = [Fraction(*point[0]) for point in points]
    levels = [Fraction(*point[1]) for point in points]
    rows = list(zip(amounts, amounts[1:], levels, levels[1:]))
    slopes = [(higher - low) / (end - start) for start, end, low, higher in rows]
    return amounts, levels, slopes + [Fraction(*slope)]


class Examples(unittest.TestCase):
    def test_the_examples(self):
        self.assertEqual(profile(twins()), ((((0, 1), (0, 1)), ((2, 1), (2, 1))), (1, 2)))
        self.assertIsNone(profile(cross()))
        self.assertEqual(level_at(profile(twins())[0], profile(twins())[1], (4, 1)), (3, 1))
        self.assertEqual([amount_for(twins(), (3, 1)), amount_for(twins(), (0, 1))], [(4, 1), (0, 1)])
        self.assertIsNone(amount_for(block(), (9, 1)))
        self.assertIs(is_endless(block(), (9, 1)), True)
        self.assertEqual(profile(twins().closed((0,))), ((((0, 1), (2, 1)),), (1, 1)))
        row = Web("a", "c", (("a", "b", 1, 1), ("b", "c", 2, 3)))
        self.assertEqual(profile(row), ((((0, 1), (3, 1)),), (4, 1)))
        flat = Web("a", "b", (("a", "b", 5, 0), ("a", "b", 1, 2)))
        self.assertEqual(profile(flat), ((((0, 1), (1, 1)), ((2, 1), (5, 1))), (0, 1)))
        self.assertIsNone(amount_for(twins().closed((0,)), (1, 1)))

    def test_by_name(self):
        points, slope = profile(web=twins())
        self.assertEqual(level_at(amount=(4, 1), slope=slope, points=points), (3, 1))
        self.assertEqual(amount_for(level=(3, 1), web=twins()), (4, 1))
        self.assertIs(is_endless(level=(3, 1), web=twins()), False)


class Profiles(unittest.TestCase):
    def check_form(self, told):
        """Tuples and fractions in lowest terms, and nothing else."""
        self.assertEqual((type(told), len(told), type(told[0])), (tuple, 2, tuple))
        for point in told[0]:
            self.assertEqual((type(point), len(point)), (tuple, 2))
        for fraction in [number for point in told[0] for number in point] + [told[1]]:
            self.assertEqual((type(fraction), len(fraction)), (tuple, 2))
            top, bottom = fraction
            self.assertEqual((type(top), type(bottom), gcd(top, bottom)), (int, int, 1))
            self.assertTrue(top >= 0 and bottom > 0)

    def check(self, web):
        told = profile(web)
        self.check_form(told)
        amounts, levels, slopes = shape_of(web)
        self.assertEqual(amounts[0], 0)
        self.assertEqual(levels[0], min([cost_without(web, way) for way in ways(web)]))
        # Numbers ascend, whatever their pairs do; and the slope changes at each point.
        self.assertEqual(amounts, sorted(set(amounts)))
        for one, other in zip(slopes, slopes[1:]):
            self.assertNotEqual(one, other)
        self.assertGreaterEqual(min(slopes), 0)
        asked = [(start + end) / 2 for start, end in zip(amounts, amounts[1:])] + amounts[1:]
        asked += [(start + 9 * end) / 10 for start, end in zip(amounts, amounts[1:])]
        asked += [amounts[-1] + 1, amounts[-1] + Fraction(1, 10 ** 9), amounts[-1] * 7 + 10 ** 12]
        for amount in asked:
            self.assertEqual(level_at(*told, pair(amount)), pair(own_level(web, pair(amount))))
        self.assertEqual(level_at(*told, (0, 1)), pair(levels[0]))

    def test_made_webs_of_all_sizes(self):
        for web in made_many():
            with self.subTest(str(web)):
                self.check(web)

    def test_drawn_amounts(self):
        chance = random.Random(32)
        for web in made_many():
            told = profile(web)
            for _ in range(4):
                amount = Fraction(chance.randint(1, chance.choice((9, 1000000))), chance.randint(1, 1000))
                self.assertEqual(level_at(*told, pair(amount)), level(web, pair(amount)), str(web))

    def test_webs_that_are_not_made(self):
        for web in crossed_webs() + [web.turned() for web in crossed_webs()]:
            self.assertIsNone(profile(web))

    def test_roads_in_another_order_and_turned(self):
        chance = random.Random(33)
        for web in made_many():
            roads = tuple(chance.sample(web.roads, len(web)))
            self.assertEqual(profile(Web(web.origin, web.goal, roads)), profile(web))
            self.assertEqual(profile(web.turned()), profile(web))

    def test_by_hand(self):
        webs = [
            (Web("a", "b", (("a", "b", 0, 0),)), ((((0, 1), (0, 1)),), (0, 1))),
            (Web("a", "b", (("a", "b", 7, 0),)), ((((0, 1), (7, 1)),), (0, 1))),
            (Web("a", "b", (("a", "b", 0, 7),)), ((((0, 1), (0, 1)),), (7, 1))),
            (Web("a", "b", (("a", "b", 4, 2),) * 8), ((((0, 1), (4, 1)),), (1, 4))),
            (Web("a", "b", (("a", "b", 3, 0), ("a", "b", 3, 5))), ((((0, 1), (3, 1)),), (0, 1))),
            (Web("a", "b", (("a", "b", 3, 0), ("a", "b", 8, 5))), ((((0, 1), (3, 1)),), (0, 1))),
            (Web("a", "b", (("a", "b", 3, 0), ("a", "b", 1, 0))), ((((0, 1), (1, 1)),), (0, 1))),
            # The level comes to 1 with 1/3, to 4 with 11/6 and to 6 with 9/2.
            (Web("a", "b", roads_of("ab ab ab", ((0, 3), (1, 6), (4, 1)))),
             ((((0, 1), (0, 1)), ((1, 3), (1, 1)), ((11, 6), (4, 1))), (2, 3))),
            # Twins behind twins: both bend with 2.
            (Web("a", "c", roads_of("ab ab bc bc", ((0, 1), (2, 1)) * 2)),
             ((((0, 1), (0, 1)), ((2, 1), (4, 1))), (1, 1))),
            # One bends with 1/2 and one with 1/3; 1/3 comes first though (1, 3) is above (1, 2).
            (Web("a", "c", roads_of("ab ab bc bc", ((0, 2), (1, 2), (0, 3), (1, 3)))),
             ((((0, 1), (0, 1)), ((1, 3), (5, 3)), ((1, 2), (9, 4))), (5, 2))),
        ]
        for web, told in webs:
            self.assertEqual(profile(web), told, str(web))

    def test_the_block(self):
        told = ((((0, 1), (1, 1)), ((1, 3), (7, 3)), ((1, 1), (19, 5)), ((53, 14), (9, 1))), (0, 1))
        self.assertEqual(profile(block()), told)
        self.check(block())

    def test_the_same_parts_behind_and_beside(self):
        for web in made_many():
            if len(web) > 4:
                continue
            amounts, levels, slopes = shape_of(web)
            beside = Web(web.origin, web.goal, web.roads + self.renamed(web, web.origin, web.goal))
            twice = shape_of(beside)
            self.assertEqual(twice, ([2 * amount for amount in amounts], levels, [s / 2 for s in slopes]))
            self.check(beside)
            goal = self.free(web)[0]
            behind = Web(web.origin, goal, web.roads + self.renamed(web, web.goal, goal))
            twice = shape_of(behind)
            self.assertEqual(twice, (amounts, [2 * number for number in levels], [2 * s for s in slopes]))
            self.check(behind)

    def free(self, web):
        return [place for place in "zyxwvutsrqponmlkjihgfedcba" if place not in web.places]

    def renamed(self, web, origin, goal):
        """The same roads between these ends, over places that the web has not."""
        inner = [place for place in web.places if place not in (web.origin, web.goal)]
        names = dict(zip(inner, self.free(web)[1:]))
        names.update({web.origin: origin, web.goal: goal})
        return tuple([tuple(sorted([names[x], names[y]])) + (base, rise) for x, y, base, rise in web.roads])


class LevelAt(unittest.TestCase):
    def test_amounts_of_any_size(self):
        points, slope = profile(twins())
        for amount in ((0, 1), (1, 10 ** 99), (2, 1), (10 ** 99, 1), (10 ** 98, 10 ** 98 + 1), (1000001, 1001)):
            x = Fraction(*amount)
            self.assertEqual(level_at(points, slope, amount), pair(x if x <= 2 else (x + 2) / 2))

    def test_any_profile(self):
        points = (((0, 1), (1, 2)), ((1, 3), (3, 2)), ((5, 2), (2, 1)))
        told = {(0, 1): (1, 2), (1, 6): (1, 1), (1, 3): (3, 2), (17, 12): (7, 4), (5, 2): (2, 1), (9, 2): (9, 4)}
        for amount, height in told.items():
            self.assertEqual(level_at(points, (1, 8), amount), height)
        self.assertEqual(level_at(points, (0, 1), (10 ** 60, 7)), (2, 1))
        self.assertEqual(level_at(points[:1], (0, 1), (10 ** 60, 7)), (1, 2))
        self.assertEqual(level_at(points[:1], (3, 2), (2, 3)), (3, 2))

    def test_profiles_of_other_amounts_than_the_limits(self):
        # Two bends closer together than 1/1000 and 1000000.
        web = Web("a", "b", roads_of("ab ab ab", ((0, 1000000), (1, 1), (1000000, 1))))
        amounts, _, _ = shape_of(web)
        self.assertEqual(amounts, [0, Fraction(1, 1000000), 1000000])
        self.assertEqual(level_at(*profile(web), (1, 2000000)), (1, 2))

    def test_what_is_no_amount(self):
        points, slope = profile(twins())
        wrong = [(0, 2), (2, 4), (-1, 1), (1, 0), (1, -1), (True, 1), (1, True), (False, 1), (1,), [1, 1], 1, None]
        for amount in wrong:
            with self.assertRaises(InvalidAmount) as caught:
                level_at(points, slope, amount)
            self.assertIs(caught.exception.given, amount)


class AmountFor(unittest.TestCase):
    def check(self, web, number):
        """The greatest amount whose level is at most this one, against the profile and its levels."""
        points, slope = profile(web)
        found, endless = amount_for(web, pair(number)), is_endless(web, pair(number))
        self.assertIs(endless, slope == (0, 1) and Fraction(*points[-1][1]) <= number)
        if endless:
            self.assertIsNone(found)
            self.assertLessEqual(own_level(web, (10 ** 30, 1)), number)
        elif number < Fraction(*points[0][1]):
            self.assertIsNone(found)
        else:
            self.assertEqual(pair(Fraction(*found)), found)
            self.assertEqual(level_at(points, slope, found), pair(number))
            if found != (0, 1):
                self.assertEqual(own_level(web, found), number)
            more = Fraction(*found) + Fraction(1, 10 ** 20)
            self.assertGreater(own_level(web, pair(more)), number)
        return found

    def test_levels_at_beside_and_between_the_points(self):
        for web in made_many():
            levels = shape_of(web)[1]
            asked = [number + move for number in levels for move in (0, Fraction(1, 97), -Fraction(1, 97))]
            asked += [(one + other) / 2 for one, other in zip(levels, levels[1:])]
            asked += [Fraction(0), levels[-1] + 1, levels[-1] * 3 + 10 ** 20, levels[0] / 2]
            for number in asked:
                if number >= 0:
                    with self.subTest(web=str(web), level=number):
                        self.check(web, number)

    def test_levels_that_are_paid(self):
        for web in made_many():
            for amount in ((1, 1000), (7, 3), (1000000, 1)):
                told = level(web, amount)
                if is_endless(web, told):
                    self.assertIsNone(amount_for(web, told))
                else:
                    self.assertEqual(amount_for(web, told), amount)

    def test_roads_without_a_or_b(self):
        free = Web("a", "b", (("a", "b", 0, 0),))
        self.assertEqual([amount_for(free, (0, 1)), is_endless(free, (0, 1))], [None, True])
        flat = Web("a", "b", (("a", "b", 7, 0),))
        told = [(amount_for(flat, number), is_endless(flat, number)) for number in ((13, 2), (7, 1), (8, 1))]
        self.assertEqual(told, [(None, False), (None, True), (None, True)])
        steep = Web("a", "b", (("a", "b", 0, 7),))
        told = [(amount_for(steep, number), is_endless(steep, number)) for number in ((0, 1), (7, 2), (10 ** 30, 1))]
        self.assertEqual(told, [((0, 1), False), ((1, 2), False), ((10 ** 30, 7), False)])
        both = Web("a", "b", (("a", "b", 7, 0), ("a", "b", 0, 7)))
        told = [(amount_for(both, number), is_endless(both, number)) for number in ((6, 1), (7, 1), (699, 100))]
        self.assertEqual(told, [((6, 7), False), (None, True), ((699, 700), False)])

    def test_webs_that_are_not_made(self):
        for web in crossed_webs():
            for number in ((0, 1), (1, 2), (10 ** 30, 1)):
                self.assertIsNone(amount_for(web, number))
                self.assertIsNone(is_endless(web, number))
            # Errors come first.
            for call in (amount_for, is_endless):
                with self.assertRaises(InvalidNumber) as caught:
                    call(web, (2, 4))
                self.assertEqual(caught.exception.given, (2, 4))

    def test_levels_of_any_size(self):
        for number in ((10 ** 99, 1), (1, 10 ** 99), (10 ** 98 + 1, 10 ** 98)):
            self.check(twins(), Fraction(*number))


class AskedAgain(unittest.TestCase):
    def test_by_turns_and_of_webs_made_anew(self):
        calls = (
            profile, lambda web: amount_for(web, (7, 2)), lambda web: is_endless(web, (7, 2)),
            lambda web: profile(web) and level_at(*profile(web), (7, 2)),
        )
        for web in made_many()[:60] + crossed_webs():
            text = str(web)
            first = [call(web) for call in calls]
            self.assertEqual([call(web) for call in calls[::-1]][::-1], first)
            self.assertEqual([call(Web.told(text)) for call in calls], first)
            self.assertEqual(str(web), text)
        self.assertEqual(str(cross()), CROSS_TEXT)

    def test_profiles_that_are_passed_stay_as_they_are(self):
        points, slope = profile(block())
        kept = (tuple(points), tuple(slope))
        for at in range(20):
            level_at(points, slope, (at, 1))
        self.assertEqual((points, slope), kept)


if __name__ == "__main__":
    unittest.main()
