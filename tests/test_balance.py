"""What finding steady loads is built on: fractions, equations, and taking up ways one by one."""

import random
import unittest
from fractions import Fraction
from math import gcd

from closedroads import balance
from closedroads.balance import balanced, cheaper, pushed, settled
from closedroads.equations import solved
from closedroads.ratios import are_fraction, lowest
from closedroads.webs import Web
from tests.own import own_costs, own_ways
from tests.samples import odd_values, sample_webs

# On the way to these some ways that were taken up are left again.
LEFT_AGAIN = (
    ("a b\nc d 10 0\na c 20 0\na c 22 8\nb d 0 6\nb d 2 3\nb d 19 0\na d 3 2", (1000000, 1)),
    ("b c\na c 0 2\na b 1 2\na b 1 2\nb c 2 2\na b 2 0\na c 1 1\na c 1 2\nb c 0 2", (100, 1)),
    ("d b\na e 1 0\nb e 50 0\nd e 0 1000\nc e 0 0\na b 0 1\na e 1 1000\na c 0 1\na d 10 0", (1000, 7)),
    ("c b\na c 15 4\na b 25 8\nb c 18 8\na b 9 6\na c 30 0\na b 25 2\na b 22 10\na c 12 1", (1000000, 11)),
)
# And here a way is taken up with which all ways that are held cost the same however it is loaded.
NOT_ALONE = (
    ("d a\nb d 2 0\na b 0 1\nc d 0 1\nb c 1 0\na c 2 2", (1000000, 1)),
    ("b e\nd e 0 1000\nd f 50 10\nb f 1 10\nb c 10 1\nc d 10 0\na c 50 1\na e 10 10", (100, 1)),
    ("a d\nb c 10 0\na b 50 10\nb c 50 1000\nb d 0 10\nb c 1 0\nc d 50 1\nb d 1000 10\na c 1 1000", (10, 1)),
    ("d c\na b 0 2\na e 2 1\nb e 1 0\na c 1 2\na b 2 1\nb d 2 1\nd e 1 1\nb c 2 2", (1000, 7)),
)


def parts_of(web, amount):
    """What ways cost alone, and by how much they raise one another, in units of one part."""
    lines = own_ways(web)
    alone = [amount[1] * sum(web.roads[index][2] for index in line) for line in lines]
    joint = [[sum(web.roads[index][3] for index in line if index in other) for other in lines] for line in lines]
    return alone, joint


def weight(web, amount, shares, divisor):
    """The sum over all roads of A x + B x x / 2."""
    carried = [Fraction(0)] * len(web)
    lines = own_ways(web)
    for at, share in shares.items():
        for index in lines[at]:
            carried[index] += Fraction(share, divisor * amount[1])
    return sum([road[2] * x + road[3] * x * x / 2 for road, x in zip(web.roads, carried)], Fraction(0))


class Ratios(unittest.TestCase):
    def test_lowest(self):
        told = [lowest(6, 4), lowest(0, 7), lowest(5, 5), lowest(10 ** 60, 10 ** 58), lowest(3, 7)]
        self.assertEqual(told, [(3, 2), (0, 1), (1, 1), (100, 1), (3, 7)])

    def test_fractions(self):
        for top, bottom in ((0, 1), (1, 1), (3, 2), (2, 3), (10 ** 90, 1), (1, 10 ** 90)):
            self.assertIs(are_fraction(top, bottom), True)
        wrong = [(0, 2), (2, 2), (2, 4), (-1, 1), (1, 0), (0, 0), (1, -1), (-1, -1), (True, 1), (1, True), (False, 1)]
        for value in odd_values():
            if type(value) is not int:
                wrong += [(value, 1), (1, value), (value, value)]
        for top, bottom in wrong:
            self.assertIs(are_fraction(top, bottom), False)


class Equations(unittest.TestCase):
    def check(self, rows, size):
        found, scale = solved([list(row) for row in rows])
        self.assertEqual(len(found), size)
        if scale == 0:
            self.assertGreater(found[-1], 0)
        self.assertGreaterEqual(scale, 0)
        for row in rows:
            told = sum(factor * number for factor, number in zip(row, found))
            self.assertEqual(told, row[size] * scale, rows)
        return scale

    def test_by_hand(self):
        self.assertEqual(solved([[2, 6]]), ([6], 2))
        self.assertEqual(solved([[-2, 6]]), ([-6], 2))
        self.assertEqual(solved([[0, 3, 6], [2, 0, 2]]), ([6, 12], 6))
        self.assertEqual(solved([[1, 2, 5], [2, 4, 7]]), ([-2, 1], 0))
        self.assertEqual(solved([[-1, 2, 5], [2, -4, 7]]), ([2, 1], 0))

    def test_many(self):
        chance = random.Random(9)
        scales = []
        for _ in range(600):
            size = chance.randint(1, 7)
            rows = [[chance.randint(-2, 2) for _ in range(size + 1)] for _ in range(size)]
            if rank([row[:size - 1] for row in rows]) == size - 1:
                scales.append(self.check(rows, size))
        self.assertTrue(scales.count(0) > 30 and len(scales) - scales.count(0) > 200)

    def test_what_is_passed_is_not_changed(self):
        rows = [[0, 3, 6], [2, 0, 2]]
        solved(rows)
        self.assertEqual(rows, [[0, 3, 6], [2, 0, 2]])


def rank(rows):
    rows = [[Fraction(number) for number in row] for row in rows]
    done = 0
    for at in range(len(rows[0])):
        heads = [row for row in rows[done:] if row[at] != 0]
        if not heads:
            continue
        rows.remove(heads[0])
        rows.insert(done, heads[0])
        for place in range(done + 1, len(rows)):
            times = rows[place][at] / heads[0][at]
            rows[place] = [mine - times * its for mine, its in zip(rows[place], heads[0])]
        done += 1
    return done


class Pushing(unittest.TestCase):
    def shares(self, told):
        shares, divisor = told
        return {at: Fraction(share, divisor) for at, share in shares.items()}

    def test_by_hand(self):
        # The share of 3 comes to 0 behind one half of the push, that of 5 would behind two thirds.
        told = self.shares(pushed({3: 1, 5: 2, 7: 0}, 4, {3: -2, 5: -3, 7: 5}))
        self.assertEqual(told, {5: Fraction(1, 8), 7: Fraction(5, 8)})
        told = self.shares(pushed({3: 2, 5: 1, 7: 0}, 3, {3: -3, 5: -2, 7: 5}))
        self.assertEqual(told, {3: Fraction(1, 6), 7: Fraction(5, 6)})
        told = self.shares(pushed({3: 2, 5: 3, 7: 1}, 6, {3: 4, 5: -5, 7: 1}))
        self.assertEqual(told, {3: Fraction(22, 30), 7: Fraction(8, 30)})

    def test_several_that_come_to_0_at_once(self):
        told = self.shares(pushed({0: 1, 1: 2, 2: 5, 3: 0}, 8, {0: -2, 1: -4, 2: 0, 3: 6}))
        self.assertEqual(told, {2: Fraction(5, 8), 3: Fraction(3, 8)})

    def test_the_last_one_stays_the_last_one(self):
        told, _ = pushed({9: 3, 4: 1, 6: 0}, 4, {9: -1, 4: -1, 6: 2})
        self.assertEqual(list(told), [9, 6])


class TakingUp(unittest.TestCase):
    """Each step is as the reason that steps come to an end has it."""

    def check_steps(self, web, amount):
        alone, joint = parts_of(web, amount)
        shares, divisor, weights, fresh = {}, 1, [], alone.index(min(alone))
        while fresh is not None:
            shares, divisor = settled(alone, joint, amount[0], {**shares, fresh: 0}, divisor)
            self.assertGreater(min(shares.values()), 0)
            self.assertEqual(sum(shares.values()), amount[0] * divisor)
            prices = [alone[at] * divisor + sum(joint[at][other] * shares[other] for other in shares) for at in shares]
            self.assertEqual(len(set(prices)), 1)
            weights.append(weight(web, amount, shares, divisor))
            fresh = cheaper(alone, joint, shares, divisor)
        self.assertTrue(all(one > other for one, other in zip(weights, weights[1:])))
        # No moving of loads from a way to another one would make it less.
        costs = [alone[at] * divisor + sum(joint[at][other] * shares[other] for other in shares)
                 for at in range(len(alone))]
        self.assertEqual(min(costs), costs[list(shares)[0]])

    def check_pushes(self, web, amount):
        """How often shares were pushed; each time the weight does not rise and none is below 0."""
        lots = []

        def watched(shares, divisor, push):
            found = pushed(shares, divisor, push)
            self.assertEqual(sum(push.values()), 0)
            self.assertEqual(Fraction(sum(found[0].values()), found[1]), Fraction(sum(shares.values()), divisor))
            self.assertGreater(min(found[0].values()), 0)
            self.assertLess(len(found[0]), len(shares))
            before = weight(web, amount, shares, divisor)
            lots.append(before - weight(web, amount, *found))
            self.assertGreater(lots[-1], 0)
            return found

        balance.pushed = watched
        try:
            self.check_steps(web, amount)
        finally:
            balance.pushed = pushed
        return len(lots)

    def test_by_hand(self):
        # Two roads, the second one held first: all of it goes over to the first one.
        shares, divisor = settled([0, 2], [[1, 0], [0, 1]], 1, {1: 1, 0: 0}, 1)
        self.assertEqual((list(shares), shares[0]), ([0], divisor))
        shares, divisor = settled([0, 2], [[1, 0], [0, 1]], 4, {0: 4, 1: 0}, 1)
        self.assertEqual((list(shares), shares[0], shares[1]), ([0, 1], 3 * divisor, divisor))
        self.assertEqual(cheaper([0, 2], [[1, 0], [0, 1]], {0: 3, 1: 1}, 1), None)
        self.assertEqual(cheaper([0, 2], [[1, 0], [0, 1]], {0: 2}, 1), None)
        self.assertEqual(cheaper([0, 2], [[1, 0], [0, 1]], {0: 5}, 2), 1)

    def test_samples(self):
        for web in sample_webs():
            for amount in ((1, 3), (6, 1), (1000000, 1)):
                self.check_pushes(web, amount)

    def test_ways_that_are_left_again(self):
        for text, amount in LEFT_AGAIN + NOT_ALONE:
            with self.subTest(text):
                self.assertGreater(self.check_pushes(Web.told(text), amount), 0)
                self.check_pushes(Web.told(text).turned(), amount)

    def test_loads_that_are_not_the_only_ones(self):
        for text, amount in NOT_ALONE:
            scales = []

            def watched(rows):
                found = solved(rows)
                scales.append(found[1])
                return found

            balance.solved = watched
            try:
                self.check_steps(Web.told(text), amount)
            finally:
                balance.solved = solved
            self.assertIn(0, scales)


class Balanced(unittest.TestCase):
    def check(self, web, amount):
        lines = own_ways(web)
        bases = [road[2] for road in web.roads]
        rises = [road[3] for road in web.roads]
        loads = balanced(lines, bases, rises, amount)
        costs = own_costs(web, loads)
        prices = {line: sum(costs[index] for index in line) for line in lines}
        for line, top, bottom in loads:
            self.assertEqual(prices[line], min(prices.values()), (str(web), amount))
            self.assertTrue(top > 0 and bottom > 0 and gcd(top, bottom) == 1)
        self.assertEqual([load[0] for load in loads], sorted({load[0] for load in loads}))
        self.assertEqual(sum(Fraction(*load[1:]) for load in loads), Fraction(*amount))

    def test_hard_webs(self):
        for text, amount in LEFT_AGAIN + NOT_ALONE:
            self.check(Web.told(text), amount)
            self.check(Web.told(text).turned(), amount)

    def test_amounts_beyond_the_limits(self):
        for web in sample_webs():
            for amount in ((1, 10 ** 40), (10 ** 40, 1), (10 ** 30, 10 ** 30 + 1), (1000003, 1009)):
                self.check(web, amount)

    def test_many_webs(self):
        chance = random.Random(10)
        many = 0
        while many < 400:
            places = "abcdef"[:chance.randint(2, 6)]
            origin, goal = chance.sample(places, 2)
            ends = [sorted(chance.sample(places, 2)) for _ in range(chance.randint(4, 8))]
            pool = chance.choice([(0, 1, 2), (0, 0, 1, 10, 50, 1000), range(30), (0, 999983, 1000000)])
            roads = tuple([(x, y, chance.choice(pool), chance.choice(pool)) for x, y in ends])
            try:
                web = Web(origin, goal, roads)
            except ValueError:
                continue
            many += 1
            whole = Fraction(chance.choice([1, 5, 100, 1000000]), chance.choice([1, 3, 1000]))
            self.check(web, (whole.numerator, whole.denominator))


if __name__ == "__main__":
    unittest.main()
