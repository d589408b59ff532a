"""Over the whole program: what its parts tell of the same web and amount goes together."""

import random
import unittest
from fractions import Fraction

from closedroads.certificates import certify_closing, certify_level, certify_making
from closedroads.checker import accepts
from closedroads.closing import best_closing, helping, level_raised, level_without, levels_without
from closedroads.console import Console
from closedroads.desks import Desk
from closedroads.errors import Broken
from closedroads.loads import carried, excess, is_steady, way_cost
from closedroads.pieces import crossing, is_crossing, is_made, making, middles, worst_costs
from closedroads.profiles import amount_for, is_endless, level_at, profile
from closedroads.steady import cheap_roads, cheapest, costs, level, steady
from closedroads.totals import are_best, best_loads, least_total, tolls, total, waste
from closedroads.ways import ways
from closedroads.webs import Web
from tests.own import own_helping, own_is_made, own_level, own_waste, pair
from tests.own_console import answered, form_of
from tests.own_desk import OwnDesk, drawn_deed
from tests.samples import cross, crossed_webs, made_webs, sample_webs, twins
from tests.test_console import outcome
from tests.test_desks import shown

SIX = (6, 1)
QUESTIONS = ("level", "made", "helping", "cheap", "roads", "waste", "total")


def all_told(web, amount):
    """What the program tells of a web and an amount."""
    told = [str(web), ways(web), steady(web, amount), level(web, amount), costs(web, amount), cheapest(web, amount)]
    told += [cheap_roads(web, amount), making(web), crossing(web), middles(web), levels_without(web, amount)]
    told += [helping(web, amount), best_closing(web, amount, 1), best_loads(web, amount), least_total(web, amount)]
    told += [tolls(web, amount), waste(web, amount), profile(web), amount_for(web, (50, 1)), is_endless(web, (50, 1))]
    told += [certify_level(web, amount), certify_making(web), certify_closing(web, amount)]
    worst = worst_costs(web)
    return told + [worst and (str(worst[0]), worst[1])]


class Agreeing(unittest.TestCase):
    """Behind each change of a desk all parts agree about its web and its amount."""

    def check(self, desk):
        web, amount = desk.web, desk.amount
        now = level(web, amount)
        self.assertEqual(now, pair(own_level(web, amount)))
        loads = steady(web, amount)
        self.assertEqual((carried(web, loads), excess(web, loads), is_steady(web, loads)), (amount, (0, 1), True))
        for way in cheapest(web, amount):
            self.assertEqual(way_cost(web, loads, way), now)
        self.check_closing(web, amount, now)
        self.check_totals(web, amount, loads, now)
        self.check_making(web, amount, now)
        for told in (certify_level(web, amount), certify_making(web), certify_closing(web, amount)):
            self.assertIs(accepts(*told), True)
        self.assertEqual(certify_level(web, amount)[0][2:], amount + now)

    def check_closing(self, web, amount, now):
        found = helping(web, amount)
        self.assertEqual(found, own_helping(web, amount))
        levels = levels_without(web, amount)
        for index, fewer in enumerate(levels):
            self.assertEqual(fewer, level_without(web, index, amount))
            self.assertEqual(index in found, fewer is not None and Fraction(*fewer) < Fraction(*now))
        least = min([Fraction(*fewer) for fewer in levels + (now,) if fewer is not None])
        self.assertEqual(best_closing(web, amount, 1)[0], pair(least))
        self.assertEqual(certify_closing(web, amount)[0][0], "helps" if found else "calm")

    def check_totals(self, web, amount, loads, now):
        self.assertEqual(total(web, loads), pair(Fraction(*now) * Fraction(*amount)))
        best = best_loads(web, amount)
        self.assertEqual((carried(web, best), total(web, best)), (amount, least_total(web, amount)))
        self.assertIs(are_best(web, best), True)
        self.assertEqual(waste(web, amount), pair(own_waste(web, amount)))
        self.assertIs(are_best(web, loads), waste(web, amount) == (1, 1))

    def check_making(self, web, amount, now):
        told = profile(web)
        self.assertEqual(is_made(web), told is not None)
        self.assertEqual(is_made(web), own_is_made(web))
        if told is None:
            self.assertIs(is_crossing(web, crossing(web)), True)
            self.assertIn(worst_costs(web)[1], middles(web))
        else:
            self.assertEqual((helping(web, amount), level_at(*told, amount)), ((), now))
            if not is_endless(web, now):
                self.assertEqual(amount_for(web, now), amount)
            self.assertGreaterEqual(Fraction(*level_raised(web, 0, amount, 0)), Fraction(*now))

    def test_behind_each_change(self):
        chance = random.Random(71)
        for web in [cross(), twins()] + crossed_webs() + made_webs():
            desk, own = Desk(web, SIX), OwnDesk(web, SIX)
            self.check(desk)
            for _ in range(8):
                name, passed = drawn_deed(chance, own)
                before = shown(desk)
                outcome(lambda: getattr(own, name)(*passed))
                outcome(lambda: getattr(desk, name)(*passed))
                self.assertEqual(shown(desk), own.shown())
                if shown(desk) != before:
                    self.check(desk)

    def test_the_console_agrees(self):
        chance = random.Random(72)
        for web in [cross(), twins()] + crossed_webs() + made_webs():
            console, own = Console(web, SIX), OwnDesk(web, SIX)
            for _ in range(6):
                name, passed = drawn_deed(chance, own)
                outcome(lambda: getattr(own, name)(*passed))
                outcome(lambda: getattr(console.desk, name)(*passed))
                for command in QUESTIONS:
                    self.assertEqual(console.say(command), answered(form_of(command), command, console.desk))
                certified = certify_level(console.desk.web, console.desk.amount)[0]
                self.assertEqual(console.say("level"), "%d/%d" % certified[4:])
                self.assertEqual(console.say("made") == "no", certify_making(console.desk.web)[0][0] == "crossed")
                calm = certify_closing(console.desk.web, console.desk.amount)[0][0] == "calm"
                self.assertEqual(console.say("helping") == "none", calm)


class PlayedAgain(unittest.TestCase):
    def test_at_a_second_desk(self):
        chance = random.Random(73)
        for web in [cross(), twins()] + crossed_webs() + made_webs():
            own, deeds = OwnDesk(web, SIX), []
            for _ in range(15):
                deeds.append(drawn_deed(chance, own))
                outcome(lambda: getattr(own, deeds[-1][0])(*deeds[-1][1]))
            seen = []
            for desk in (Desk(web, SIX), Desk(Web.told(str(web)), SIX), Console(web, SIX).desk):
                rows = []
                for name, passed in deeds:
                    rows.append((outcome(lambda: getattr(desk, name)(*passed)), shown(desk)))
                seen.append(rows + [all_told(desk.web, desk.amount)])
            self.assertEqual(seen[0], seen[1])
            self.assertEqual(seen[0], seen[2])

    def test_webs_told_earlier_and_their_answers_stay(self):
        chance = random.Random(74)
        webs = sample_webs()[::2]
        first = [all_told(web, SIX) for web in webs]
        desks = [Desk(web, SIX) for web in webs]
        for desk in desks:
            own = OwnDesk(desk.web, SIX)
            for _ in range(5):
                name, passed = drawn_deed(chance, own)
                outcome(lambda: getattr(own, name)(*passed))
                outcome(lambda: getattr(desk, name)(*passed))
                all_told(desk.web, desk.amount)
        self.assertEqual([all_told(web, SIX) for web in webs], first)
        self.assertEqual([all_told(web, SIX) for web in webs[::-1]][::-1], first)

    def test_undone_desks_tell_the_same_as_at_first(self):
        desk = Desk(cross(), SIX)
        first = all_told(desk.web, desk.amount)
        desk.promise(("most", 92, 1))
        desk.close(2)
        desk.flow((13, 2))
        self.assertNotEqual(all_told(desk.web, desk.amount), first)
        while desk.changes:
            desk.undo()
        self.assertEqual(all_told(desk.web, desk.amount), first)


class PromisedLevels(unittest.TestCase):
    """A desk that promises a level takes just the amounts up to the one that `amount_for` tells."""

    def test_beside_the_amounts_that_are_told(self):
        many = 0
        for web in made_webs() + [web.turned() for web in made_webs()]:
            for number in [own_level(web, amount) for amount in (SIX, (1, 2), (45, 7), (1000, 3))] + [Fraction(7, 2)]:
                many += self.check(web, number)
        self.assertGreater(many, 60)

    def check(self, web, number):
        told = amount_for(web, pair(number))
        small = Desk(web, (1, 1000))
        if own_level(web, (1, 1000)) > number:
            with self.assertRaises(Broken):
                small.promise(("most",) + pair(number))
            return 0
        small.promise(("most",) + pair(number))
        if told is None:
            self.assertIs(is_endless(web, pair(number)), True)
            self.assertIsNone(small.flow((1000000, 1)))
            return 0
        if told[0] > 10 ** 6 or told[1] > 1000 or told == (0, 1):
            return 0
        self.assertIsNone(small.flow(told))
        more = Fraction(told[0] * 900 // told[1] + 1, 900)
        with self.assertRaises(Broken) as caught:
            small.flow(pair(more))
        self.assertEqual((caught.exception.index, small.amount), (0, told))
        self.assertIsNone(small.promise(("least",) + pair(number)))
        less = Fraction(*told) / 2
        if less.denominator <= 1000:
            with self.assertRaises(Broken) as caught:
                small.flow(pair(less))
            self.assertEqual(caught.exception.index, 1)
        return 1


if __name__ == "__main__":
    unittest.main()
