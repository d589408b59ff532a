import random
import unittest
from fractions import Fraction

from closedroads.desks import Desk
from closedroads.errors import (
    Broken, InvalidAmount, InvalidCost, InvalidNumber, InvalidWish, NotAWeb, NothingToUndo, NoWay, TooMany, UnknownRoad,
)
from closedroads.pieces import worst_costs
from closedroads.webs import Web
from tests.own import own_helping, own_is_made, own_level, own_waste, pair
from tests.own_desk import OwnDesk, drawn_deed, own_cheap, own_kept
from tests.samples import (
    CROSS_TEXT, Agreeing, Touchy, cross, crossed_webs, made_webs, odd_values, roads_of, sample_webs, twins,
)
from tests.test_arguments import wrong_amounts, wrong_indexes, wrong_numbers, wrong_webs

SIX = (6, 1)


def full_web():
    return Web("a", "b", (("a", "b", 1, 1),) * 8)


def shown(desk):
    return str(desk.web), desk.amount, desk.promises, desk.changes


def wrong_wishes():
    """What is no wish."""
    rows = [
        (), ("made",) * 2, ("made", 1), ("made", ()), ("calm", 1, 2), ("calm", None), ("Made",), ("made ",), ("",),
        "made", "calm", ["made"], (("made",),), ("most",), ("most", 1), ("most", 1, 1, 1), ("most", 2, 2),
        ("most", 6, 4), ("most", -1, 1), ("most", 1, 0), ("most", 1, -1), ("most", 0, 2), ("most", 0, 0),
        ("most", (1, 1)), ("most", True, 1), ("most", 1, True), ("most", False, 1), ("most", "1", 1),
        ("most", 1, "1"), ("most", None, 1), ("least",), ("least", 1), ("least", 2, 4), ("least", 0, 3),
        ("least", -1, 2), ("least", 1, 0), ("least", True, 1), ("least", 92), ("least", (92, 1)), ("least", 1, 1, 1),
        ("least", [1], 1), ("least", 1, Touchy()), ("waste",), ("waste", 4), ("waste", 8, 6), ("waste", -4, 3),
        ("waste", 4, 0), ("waste", True, 1), ("waste", 1, 1, 1), ("waste", (4, 3)), ("waste", Agreeing(), 1),
        ("waste", 4, -3), ("cheap",), ("cheap", -1), ("cheap", 8), ("cheap", 10 ** 50), ("cheap", True),
        ("cheap", False), ("cheap", "0"), ("cheap", None), ("cheap", (0,)), ("cheap", 0, 1), ("cheap", Touchy()),
        ("cheap", Agreeing()), (Touchy(),), (Agreeing(),), (None,), (b"made",), (True,), (0,), ("steady",),
        ("helps", 1), ("made", Touchy()), (["made"],), {"made": 1}, ("mode",), ("cheap", [0]), (Agreeing(), 1, 1),
        (Touchy(), 1, 1), ("MOST", 1, 1), ("at most", 1, 1), ("cheap", {0}),
    ]
    return odd_values() + rows


class Refusing(unittest.TestCase):
    def refuse(self, kind, told, desk, call, *passed, **named):
        """The call raises this error with this value and changes nothing of the desk."""
        before = shown(desk)
        with self.assertRaises(kind) as caught:
            call(*passed, **named)
        self.assertIs(type(caught.exception), kind)
        self.assertEqual(list(vars(caught.exception)), list(told))
        for name, value in told.items():
            self.assertIs(getattr(caught.exception, name), value)
        self.assertEqual(shown(desk), before)


class NewDesks(Refusing):
    def test_what_a_new_desk_shows(self):
        for web in sample_webs():
            for amount in (SIX, (1, 1000), (1000000, 999)):
                desk = Desk(web, amount)
                self.assertTrue(desk.web == web)
                self.assertEqual(shown(desk), (str(web), amount, (), 0))
        self.assertEqual(shown(Desk(amount=SIX, web=cross())), (CROSS_TEXT, SIX, (), 0))

    def test_wrong_webs_and_amounts(self):
        desk = Desk(cross(), SIX)
        for value in wrong_webs():
            self.refuse(NotAWeb, {"given": value}, desk, Desk, value, SIX)
            self.refuse(NotAWeb, {"given": value}, desk, Desk, amount=None, web=value)
        for value in wrong_amounts():
            self.refuse(InvalidAmount, {"given": value}, desk, Desk, cross(), value)
            self.refuse(InvalidAmount, {"given": value}, desk, Desk, amount=value, web=cross())
        self.refuse(NotAWeb, {"given": desk}, desk, Desk, desk, SIX)

    def test_equal_to_itself_alone(self):
        desk, other = Desk(cross(), SIX), Desk(cross(), SIX)
        self.assertTrue(desk == desk)
        self.assertFalse(desk != desk)
        for value in odd_values() + [other, cross(), SIX, CROSS_TEXT, shown(desk)]:
            self.assertIs(desk == value, False)
            self.assertIs(desk != value, True)
        self.assertIs(Agreeing() == desk, True)
        self.assertTrue(desk in [other, desk])
        self.assertFalse(desk in [other, cross(), None])

    def test_true_whatever_it_has(self):
        desk = Desk(twins(), SIX)
        self.assertTrue(desk)
        desk.promise(("made",))
        self.assertTrue(desk)
        desk.undo()
        self.assertTrue(desk and True)

    def test_the_example(self):
        desk = Desk(cross(), SIX)
        desk.promise(("most", 92, 1))
        desk.close(2)
        self.assertIs(desk.web == cross().closed((2,)), True)
        self.assertEqual([desk.changes, desk.promises], [2, (("most", 92, 1),)])
        desk.promise(("calm",))
        self.refuse(Broken, {"index": 0}, desk, desk.flow, (9, 1))
        self.assertEqual([desk.undo(), desk.undo(), desk.changes, len(desk.web)], [None, None, 1, 5])


class Changes(Refusing):
    def test_each_change_and_taking_it_back(self):
        road = ("a", "d", 3, 4)
        deeds = [
            (lambda desk: desk.cost(2, 7, 8), cross().costing(2, 7, 8), SIX, ()),
            (lambda desk: desk.cost(rise=0, base=1000000, index=0), cross().costing(0, 1000000, 0), SIX, ()),
            (lambda desk: desk.close(0), cross().closed((0,)), SIX, ()),
            (lambda desk: desk.close(index=2), cross().closed((2,)), SIX, ()),
            (lambda desk: desk.widen(road), cross().widened(road), SIX, ()),
            (lambda desk: desk.widen(road=road), cross().widened(road), SIX, ()),
            (lambda desk: desk.flow((7, 5)), cross(), (7, 5), ()),
            (lambda desk: desk.flow(amount=(1000000, 999)), cross(), (1000000, 999), ()),
            (lambda desk: desk.promise(("most", 92, 1)), cross(), SIX, (("most", 92, 1),)),
            (lambda desk: desk.promise(wish=("waste", 92, 83)), cross(), SIX, (("waste", 92, 83),)),
        ]
        for deed, web, amount, promises in deeds:
            desk = Desk(cross(), SIX)
            self.assertIsNone(deed(desk))
            self.assertEqual(shown(desk), (str(web), amount, promises, 1))
            self.assertTrue(desk.web == web)
            self.assertIsNone(desk.undo())
            self.assertEqual(shown(desk), (CROSS_TEXT, SIX, (), 0))

    def test_lifting(self):
        desk = Desk(cross(), SIX)
        for wish in (("most", 92, 1), ("cheap", 2), ("least", 92, 1)):
            desk.promise(wish)
        self.assertIsNone(desk.lift(1))
        self.assertEqual(shown(desk)[2:], ((("most", 92, 1), ("least", 92, 1)), 4))
        self.assertIsNone(desk.lift(index=1))
        self.assertEqual(shown(desk)[2:], ((("most", 92, 1),), 5))
        desk.undo()
        desk.undo()
        self.assertEqual(shown(desk)[2:], ((("most", 92, 1), ("cheap", 2), ("least", 92, 1)), 3))

    def test_changes_by_which_nothing_becomes_other(self):
        desk = Desk(cross(), SIX)
        desk.cost(0, 0, 10)
        desk.flow(SIX)
        desk.promise(("cheap", 0))
        desk.promise(("cheap", 0))
        desk.cost(4, 0, 10)
        self.assertEqual(shown(desk), (CROSS_TEXT, SIX, (("cheap", 0),) * 2, 5))
        for left, many in ((4, 2), (3, 1), (2, 0), (1, 0), (0, 0)):
            desk.undo()
            self.assertEqual(shown(desk), (CROSS_TEXT, SIX, (("cheap", 0),) * many, left))
        self.refuse(NothingToUndo, {}, desk, desk.undo)

    def test_others_close_with_a_road(self):
        desk = Desk(Web("a", "d", roads_of("ab bc cd ad", ((1, 1),) * 4)), SIX)
        desk.close(1)
        self.assertEqual(desk.web.roads, (("a", "d", 1, 1),))
        desk.undo()
        self.assertEqual(len(desk.web), 4)

    def test_nothing_to_take_back(self):
        desk = Desk(cross(), SIX)
        self.refuse(NothingToUndo, {}, desk, desk.undo)
        desk.flow((1, 1))
        desk.undo()
        self.refuse(NothingToUndo, {}, desk, desk.undo)
        self.refuse(NothingToUndo, {}, desk, desk.undo)

    def test_undoing_is_no_change_itself(self):
        desk = Desk(cross(), SIX)
        for amount in ((1, 1), (2, 1), (3, 1)):
            desk.flow(amount)
        told = []
        for _ in range(3):
            desk.undo()
            told.append((desk.amount, desk.changes))
        self.assertEqual(told, [((2, 1), 2), ((1, 1), 1), (SIX, 0)])
        desk.flow((4, 1))
        self.assertEqual((desk.amount, desk.changes), ((4, 1), 1))

    def test_many_changes(self):
        desk = Desk(twins(), (1, 1))
        for at in range(2, 1202):
            desk.flow((at, 1))
        self.assertEqual(desk.changes, 1200)
        for at in range(1200, 0, -1):
            desk.undo()
            self.assertEqual(desk.amount, (at, 1))

    def test_webs_that_were_shown_stay_as_they_are(self):
        web = cross()
        desk = Desk(web, SIX)
        desk.close(2)
        seen = desk.web
        desk.cost(0, 9, 9)
        self.assertEqual([str(web), seen == cross().closed((2,))], [CROSS_TEXT, True])


class Wrong(Refusing):
    """All errors but Broken, each before it: a promise stands that any change would break."""

    def setUp(self):
        self.desk = Desk(cross(), SIX)
        self.desk.promise(("most", 92, 1))
        self.desk.promise(("least", 92, 1))

    def test_costs(self):
        desk = self.desk
        for value in wrong_indexes():
            self.refuse(UnknownRoad, {"given": value}, desk, desk.cost, value, 0, 0)
            self.refuse(UnknownRoad, {"given": value}, desk, desk.cost, rise=None, base=-1, index=value)
        for value in wrong_numbers():
            self.refuse(InvalidCost, {"given": value}, desk, desk.cost, 0, value, -5)
            self.refuse(InvalidCost, {"given": value}, desk, desk.cost, 0, 5, value)
            self.refuse(InvalidCost, {"given": value}, desk, desk.cost, rise=value, index=0, base=5)
        self.refuse(Broken, {"index": 1}, desk, desk.cost, 0, 0, 9)
        self.refuse(Broken, {"index": 0}, desk, desk.cost, 0, 0, 11)

    def test_closing(self):
        desk = self.desk
        for value in wrong_indexes():
            self.refuse(UnknownRoad, {"given": value}, desk, desk.close, value)
        self.refuse(Broken, {"index": 1}, desk, desk.close, 2)
        single = Desk(twins().closed((0,)), SIX)
        single.promise(("made",))
        self.refuse(UnknownRoad, {"given": 1}, single, single.close, 1)
        self.refuse(NoWay, {}, single, single.close, 0)

    def test_widening(self):
        desk = self.desk
        rows = [
            ("b", "a", 0, 0), ("a", "a", 0, 0), ("a", "b", 0), ("a", "b", 0, 0, 0), ["a", "b", 0, 0],
            ("a", "B", 0, 0), ("a", "b", -1, 0), ("a", "b", 0, 1000001), ("a", "b", True, 0), ("a", "b", 0, False),
            "ab00", ("ab", 0, 0), (), ("a", "b", "0", 0), (("a", "b", 0, 0),), (Touchy(), "b", 0, 0),
            ("a", Agreeing(), 0, 0), ("a", "b", 0, Touchy()),
        ]
        for value in odd_values() + rows:
            self.refuse(InvalidNumber, {"given": value}, desk, desk.widen, value)
        self.refuse(NoWay, {}, desk, desk.widen, ("a", "e", 0, 0))
        self.refuse(NoWay, {}, desk, desk.widen, ("x", "y", 0, 0))
        self.refuse(Broken, {"index": 1}, desk, desk.widen, ("a", "d", 0, 0))
        full = Desk(full_web(), SIX)
        full.promise(("least", 7, 4))
        for road in (("a", "b", 0, 0), ("a", "c", 0, 0)):
            self.refuse(TooMany, {"given": 9}, full, full.widen, road)
        self.refuse(InvalidNumber, {"given": None}, full, full.widen, None)

    def test_flowing(self):
        desk = self.desk
        for value in wrong_amounts():
            self.refuse(InvalidAmount, {"given": value}, desk, desk.flow, value)
            free = Desk(cross(), SIX)
            self.refuse(InvalidAmount, {"given": value}, free, free.flow, value)
            free.promise(("least", 0, 1))
            self.refuse(InvalidAmount, {"given": value}, free, free.flow, amount=value)
        self.refuse(Broken, {"index": 0}, desk, desk.flow, (7, 1))
        self.refuse(Broken, {"index": 1}, desk, desk.flow, (5, 1))

    def test_promising(self):
        desk = self.desk
        for value in wrong_wishes():
            self.refuse(InvalidWish, {"given": value}, desk, desk.promise, value)
            self.refuse(InvalidWish, {"given": value}, desk, desk.promise, wish=value)
        self.refuse(Broken, {"index": 2}, desk, desk.promise, ("most", 91, 1))

    def test_lifting(self):
        desk = self.desk
        for value in wrong_numbers() + [2, 3, 8]:
            self.refuse(InvalidNumber, {"given": value}, desk, desk.lift, value)
        desk.lift(1)
        self.refuse(InvalidNumber, {"given": 1}, desk, desk.lift, 1)
        desk.lift(0)
        self.refuse(InvalidNumber, {"given": 0}, desk, desk.lift, 0)


    def test_desks_without_promises(self):
        desk = Desk(cross(), SIX)
        for value in odd_values() + [(), (1,), "1"]:
            self.refuse(UnknownRoad, {"given": value}, desk, desk.cost, value, 0, 0)
            self.refuse(InvalidCost, {"given": value}, desk, desk.cost, 0, value, 0)
            self.refuse(InvalidCost, {"given": value}, desk, desk.cost, 0, 0, value)
            self.refuse(UnknownRoad, {"given": value}, desk, desk.close, value)
            self.refuse(InvalidNumber, {"given": value}, desk, desk.widen, value)
            self.refuse(InvalidWish, {"given": value}, desk, desk.promise, value)
            self.refuse(InvalidNumber, {"given": value}, desk, desk.lift, value)
        self.refuse(InvalidNumber, {"given": 0}, desk, desk.lift, 0)


class Wishes(Refusing):
    def check(self, web, amount, wish, told):
        """The desk takes this promise, or does not, as told and by sums of the test's own."""
        self.assertIs(own_kept(wish, web, amount), told, (str(web), amount, wish))
        desk = Desk(web, amount)
        if told:
            self.assertIsNone(desk.promise(wish))
            self.assertEqual((desk.promises, desk.changes), ((wish,), 1))
            wrong = ("most", 0, 1) if own_level(web, amount) > 0 else ("least", 1, 1)
            self.refuse(Broken, {"index": 1}, desk, desk.promise, wrong)
        else:
            self.refuse(Broken, {"index": 0}, desk, desk.promise, wish)

    def test_bounds_of_the_level(self):
        for web in sample_webs():
            for amount in ((1, 3), SIX, (1000000, 999)):
                now = own_level(web, amount)
                for beside in (Fraction(1, 10 ** 9), Fraction(1)):
                    self.check(web, amount, ("most",) + pair(now), True)
                    self.check(web, amount, ("least",) + pair(now), True)
                    self.check(web, amount, ("most",) + pair(now + beside), True)
                    self.check(web, amount, ("least",) + pair(now + beside), False)
                    if now >= beside:
                        self.check(web, amount, ("most",) + pair(now - beside), False)
                        self.check(web, amount, ("least",) + pair(now - beside), True)
                self.check(web, amount, ("least", 0, 1), True)
                self.check(web, amount, ("most", 0, 1), now == 0)

    def test_bounds_of_the_waste(self):
        for web in sample_webs():
            now = own_waste(web, SIX)
            beside = Fraction(1, 10 ** 9)
            self.check(web, SIX, ("waste",) + pair(now), True)
            self.check(web, SIX, ("waste",) + pair(now + beside), True)
            self.check(web, SIX, ("waste",) + pair(now - beside), False)
            self.check(web, SIX, ("waste", 4, 3), True)
            self.check(web, SIX, ("waste", 1, 1), now == 1)
            self.check(web, SIX, ("waste", 0, 1), False)

    def test_cheap_roads(self):
        for web in sample_webs():
            for amount in ((1, 3), SIX):
                cheap = own_cheap(web, amount)
                for index in range(8):
                    self.check(web, amount, ("cheap", index), index in cheap)
        # A road that nobody takes may cost just the level anyway.
        self.check(twins(), (2, 1), ("cheap", 1), True)
        self.check(twins(), (1999, 1000), ("cheap", 1), False)
        self.check(twins(), (2, 1), ("cheap", 2), False)

    def test_made_and_calm(self):
        for web in sample_webs() + [worst_costs(web)[0] for web in crossed_webs()]:
            self.check(web, SIX, ("made",), own_is_made(web))
            self.check(web, SIX, ("calm",), own_helping(web, SIX) == ())
        self.check(cross(), SIX, ("calm",), False)
        self.check(cross(), (1, 1), ("calm",), True)
        # Where closing it brings just the same, closing the middle road does not help.
        for amount, told in (((80, 31), True), ((81, 31), False), ((80, 9), True), ((79, 9), False)):
            self.check(cross(), amount, ("calm",), told)
        self.check(twins().closed((0,)), SIX, ("calm",), True)

    def test_numbers_of_any_size(self):
        self.check(cross(), SIX, ("most", 10 ** 99, 1), True)
        self.check(cross(), SIX, ("least", 1, 10 ** 99), True)
        self.check(cross(), SIX, ("waste", 10 ** 98 + 1, 10 ** 98), False)


class BrokenPromises(Refusing):
    def test_the_first_one_counts(self):
        desk = Desk(cross(), SIX)
        for wish in (("least", 1, 1), ("cheap", 2), ("most", 92, 1), ("cheap", 0), ("waste", 92, 83)):
            desk.promise(wish)
        # Behind the closing of the road 2 another road has this index, and it is cheap, too.
        desk.close(2)
        desk.undo()
        self.refuse(Broken, {"index": 1}, desk, desk.cost, 2, 1000000, 0)
        self.refuse(Broken, {"index": 2}, desk, desk.flow, (7, 1))
        self.refuse(Broken, {"index": 5}, desk, desk.promise, ("made",))
        self.refuse(Broken, {"index": 5}, desk, desk.promise, ("calm",))

    def test_behind_lifting_the_others_move_up(self):
        desk = Desk(cross(), SIX)
        for wish in (("least", 92, 1), ("cheap", 2), ("most", 92, 1)):
            desk.promise(wish)
        self.refuse(Broken, {"index": 2}, desk, desk.flow, (7, 1))
        desk.lift(0)
        self.refuse(Broken, {"index": 1}, desk, desk.flow, (7, 1))
        desk.lift(0)
        self.refuse(Broken, {"index": 0}, desk, desk.flow, (7, 1))
        desk.lift(0)
        self.assertIsNone(desk.flow((7, 1)))
        for _ in range(4):
            desk.undo()
        self.refuse(Broken, {"index": 2}, desk, desk.flow, (7, 1))
        self.refuse(Broken, {"index": 3}, desk, desk.promise, ("waste", 1, 1))

    def test_each_change_may_break_a_promise(self):
        desk = Desk(twins(), (4, 1))
        for wish in (("made",), ("calm",), ("most", 3, 1), ("waste", 24, 23), ("cheap", 1)):
            desk.promise(wish)
        self.refuse(Broken, {"index": 2}, desk, desk.close, 0)
        self.refuse(Broken, {"index": 2}, desk, desk.cost, 0, 1, 1)
        self.refuse(Broken, {"index": 2}, desk, desk.flow, (5, 1))
        self.refuse(Broken, {"index": 4}, desk, desk.widen, ("a", "b", 0, 0))
        self.refuse(Broken, {"index": 3}, desk, desk.flow, (3, 1))
        self.refuse(Broken, {"index": 4}, desk, desk.flow, (1, 1))
        crossing = Desk(cross().closed((2,)), SIX)
        crossing.promise(("least", 1, 1))
        crossing.promise(("made",))
        self.refuse(Broken, {"index": 1}, crossing, crossing.widen, ("b", "c", 10, 1))
        crossing.lift(1)
        crossing.promise(("calm",))
        self.refuse(Broken, {"index": 1}, crossing, crossing.widen, ("b", "c", 10, 1))
        self.assertIsNone(crossing.widen(("b", "c", 1000, 1)))
        self.refuse(Broken, {"index": 1}, crossing, crossing.cost, 4, 10, 1)

    def test_undo_leads_back_to_what_was_promised(self):
        desk = Desk(cross(), SIX)
        desk.promise(("least", 92, 1))
        desk.lift(0)
        desk.flow((1, 1))
        desk.promise(("most", 31, 1))
        self.refuse(Broken, {"index": 0}, desk, desk.flow, SIX)
        for _ in range(3):
            desk.undo()
        self.assertEqual(shown(desk), (CROSS_TEXT, SIX, (("least", 92, 1),), 1))
        self.refuse(Broken, {"index": 0}, desk, desk.flow, (1, 1))


class DrawnDeeds(Refusing):
    def done(self, desk, name, passed):
        """What a deed came to: None, or the error and what is told of it."""
        try:
            self.assertIsNone(getattr(desk, name)(*passed))
            return None
        except (LookupError, ArithmeticError, ValueError) as error:
            return type(error), vars(error)

    def test_beside_a_desk_of_the_tests_own(self):
        chance = random.Random(41)
        met = {}
        for web in [cross(), twins(), full_web()] + crossed_webs() + made_webs():
            desk, own = Desk(web, SIX), OwnDesk(web, SIX)
            for _ in range(40):
                name, passed = drawn_deed(chance, own)
                told = self.done(desk, name, passed)
                self.assertEqual(told, self.done(own, name, passed), (own.shown(), name, passed))
                self.assertEqual(shown(desk), own.shown())
                for wish in desk.promises:
                    self.assertTrue(own_kept(wish, desk.web, desk.amount))
                met[told and told[0]] = met.get(told and told[0], 0) + 1
            while desk.changes > 0:
                desk.undo()
                own.undo()
                self.assertEqual(shown(desk), own.shown())
            self.assertEqual(shown(desk), (str(web), SIX, (), 0))
        for kind in (None, Broken, NoWay, TooMany, NothingToUndo, UnknownRoad, InvalidNumber):
            self.assertGreater(met.get(kind, 0), 0, kind)

    def test_two_desks_of_one_web(self):
        web = cross()
        one, other = Desk(web, SIX), Desk(web, SIX)
        one.close(2)
        one.promise(("made",))
        self.assertEqual(shown(other), (CROSS_TEXT, SIX, (), 0))
        other.flow((1, 1))
        self.assertEqual((one.amount, one.changes, other.promises), (SIX, 2, ()))


if __name__ == "__main__":
    unittest.main()
