import random
import unittest

from closedroads.desks import Desk
from closedroads.errors import Broken, InvalidCost, NothingToUndo, NoWay, UnknownRoad
from tests.own_desk import OwnDesk, drawn_deed
from tests.samples import CROSS_TEXT, cross, crossed_webs, made_webs, twins
from tests.test_desks import shown

SIX = (6, 1)
RAISED = (
    Broken(3), InvalidCost(-1), NothingToUndo(), ValueError("own"), KeyError(1), ZeroDivisionError(), RuntimeError(),
)


def begun():
    """A desk with a promise and two changes more."""
    desk = Desk(cross(), SIX)
    desk.promise(("most", 92, 1))
    desk.close(2)
    desk.flow((13, 2))
    return desk


def all_that_can_be_taken_back(desk):
    """What the desk shows at each step back; the desk is as before then."""
    seen = []
    try:
        with desk.trial():
            while desk.changes > 0:
                desk.undo()
                seen.append(shown(desk))
            raise RuntimeError
    except RuntimeError:
        return seen


class Leaving(Exception):
    """An error of the tests' own, under none of the package."""


class Trials(unittest.TestCase):
    def test_as_gives_the_desk(self):
        desk = begun()
        with desk.trial() as same:
            self.assertIs(same, desk)
        with desk.trial():
            pass
        self.assertEqual(shown(desk)[3], 3)

    def test_a_call_alone_changes_nothing(self):
        desk = begun()
        before = shown(desk)
        trial = desk.trial()
        self.assertTrue(trial)
        self.assertEqual(shown(desk), before)
        desk.flow((5, 1))
        del trial
        self.assertEqual(shown(desk)[3], 4)

    def test_without_an_error_all_stays(self):
        desk = begun()
        with desk.trial():
            desk.cost(0, 5, 5)
            desk.widen(("b", "c", 1000, 9))
            desk.undo()
            desk.lift(0)
        self.assertEqual((desk.web.roads[0], len(desk.web), desk.promises), (("a", "b", 5, 5), 4, ()))
        self.assertEqual(desk.changes, 5)
        told = []
        while desk.changes > 0:
            desk.undo()
            told.append((desk.web.roads[0][2], len(desk.web), len(desk.promises), desk.amount))
        self.assertEqual(told, [(5, 4, 1, (13, 2)), (0, 4, 1, (13, 2)), (0, 4, 1, SIX), (0, 5, 1, SIX), (0, 5, 0, SIX)])

    def test_with_an_error_all_is_as_it_was(self):
        for raised in RAISED + (Leaving(),):
            desk = begun()
            before, back = shown(desk), all_that_can_be_taken_back(desk)
            with self.assertRaises(type(raised)) as caught:
                with desk.trial():
                    desk.cost(0, 5, 5)
                    desk.lift(0)
                    desk.flow((1000, 1))
                    raise raised
            self.assertIs(caught.exception, raised)
            self.assertEqual(shown(desk), before)
            self.assertEqual(all_that_can_be_taken_back(desk), back)
            self.assertEqual(len(back), 3)

    def test_errors_that_the_desk_itself_raises(self):
        desk = begun()
        before = shown(desk)
        for kind, fail in (
            (Broken, lambda: desk.flow((1000, 1))), (UnknownRoad, lambda: desk.close(7)),
            (InvalidCost, lambda: desk.cost(0, -1, 0)), (NoWay, lambda: desk.widen(("x", "y", 0, 0))),
        ):
            with self.assertRaises(kind):
                with desk.trial():
                    desk.cost(0, 1, 1)
                    desk.promise(("cheap", 0))
                    fail()
            self.assertEqual(shown(desk), before)

    def test_what_is_taken_back_within_comes_again(self):
        desk = begun()
        before, back = shown(desk), all_that_can_be_taken_back(desk)
        with self.assertRaises(Leaving):
            with desk.trial():
                for _ in range(3):
                    desk.undo()
                self.assertEqual(shown(desk), (CROSS_TEXT, SIX, (), 0))
                desk.flow((1, 1))
                raise Leaving
        self.assertEqual(shown(desk), before)
        self.assertEqual(all_that_can_be_taken_back(desk), back)
        # Without an error it stays taken back.
        with desk.trial():
            desk.undo()
        self.assertEqual((desk.amount, desk.changes), (SIX, 2))

    def test_an_error_caught_within_changes_nothing_of_that(self):
        desk = begun()
        with desk.trial():
            desk.cost(0, 1, 1)
            with self.assertRaises(Broken):
                desk.flow((1000, 1))
            desk.cost(0, 2, 2)
        self.assertEqual((desk.web.roads[0], desk.changes), (("a", "b", 2, 2), 5))
        before = shown(desk)
        with self.assertRaises(Leaving):
            with desk.trial():
                try:
                    desk.close(9)
                except UnknownRoad:
                    desk.cost(1, 3, 3)
                raise Leaving
        self.assertEqual(shown(desk), before)

    def test_rows_that_end_otherwise(self):
        desk = begun()

        def leave():
            with desk.trial():
                desk.cost(0, 1, 1)
                return desk.changes

        self.assertEqual([leave(), desk.changes], [4, 4])
        for _ in range(3):
            with desk.trial():
                desk.cost(0, 2, 2)
                break
        self.assertEqual(desk.changes, 5)
        # What ends a program is an exception as well.
        for kind in (KeyboardInterrupt, SystemExit, GeneratorExit):
            before = shown(desk)
            with self.assertRaises(kind):
                with desk.trial():
                    desk.lift(0)
                    raise kind
            self.assertEqual(shown(desk), before)

    def test_the_desk_as_the_rows_begin_counts(self):
        desk = begun()
        trial = desk.trial()
        desk.flow((5, 1))
        before = shown(desk)
        with self.assertRaises(Leaving):
            with trial:
                desk.flow((4, 1))
                raise Leaving
        self.assertEqual(shown(desk), before)
        # The same trial once more.
        desk.flow((3, 1))
        before = shown(desk)
        with self.assertRaises(Leaving):
            with trial as same:
                same.flow((2, 1))
                raise Leaving
        self.assertEqual(shown(desk), before)


class Within(unittest.TestCase):
    """Trials within trials."""

    def test_the_inner_one_fails(self):
        desk = begun()
        with desk.trial():
            desk.cost(0, 1, 1)
            with self.assertRaises(Leaving):
                with desk.trial():
                    desk.cost(0, 2, 2)
                    raise Leaving
            self.assertEqual((desk.web.roads[0], desk.changes), (("a", "b", 1, 1), 4))
        self.assertEqual((desk.web.roads[0], desk.changes), (("a", "b", 1, 1), 4))

    def test_the_outer_one_fails(self):
        desk = begun()
        before = shown(desk)
        with self.assertRaises(Leaving):
            with desk.trial():
                desk.cost(0, 1, 1)
                with desk.trial():
                    desk.cost(0, 2, 2)
                self.assertEqual(desk.changes, 5)
                raise Leaving
        self.assertEqual(shown(desk), before)

    def nested(self, desk, depth, failing, trial=None):
        """Trials within trials down to the depth 0, of which those at some depths fail."""
        before = shown(desk)
        try:
            with trial or desk.trial():
                desk.cost(0, depth, depth)
                if depth > 0:
                    self.nested(desk, depth - 1, failing, trial)
                if depth in failing:
                    raise Leaving
        except Leaving:
            self.assertEqual(shown(desk), before)

    def check_nested(self, failing, trial_of):
        desk = begun()
        self.nested(desk, 4, failing, trial_of(desk))
        # What was done at a depth stays if neither this one nor one around it failed.
        staying = [depth for depth in range(5) if not [other for other in failing if other >= depth]]
        self.assertEqual(desk.changes, 3 + len(staying))
        self.assertEqual(desk.web.roads[0][2:], (staying[0],) * 2 if staying else (0, 10))
        for _ in staying:
            desk.undo()
        self.assertEqual(shown(desk), shown(begun()))

    def test_several_deep(self):
        for bits in range(32):
            failing = [depth for depth in range(5) if bits >> depth & 1]
            with self.subTest(failing):
                self.check_nested(failing, lambda desk: None)

    def test_one_trial_within_itself(self):
        for bits in range(32):
            failing = [depth for depth in range(5) if bits >> depth & 1]
            with self.subTest(failing):
                self.check_nested(failing, lambda desk: desk.trial())

    def test_an_error_through_all_of_them(self):
        desk = begun()
        before = shown(desk)
        with self.assertRaises(Leaving):
            with desk.trial(), desk.trial():
                desk.cost(0, 1, 1)
                with desk.trial():
                    desk.undo()
                    desk.undo()
                    raise Leaving
        self.assertEqual(shown(desk), before)

    def test_two_desks(self):
        one, other = begun(), Desk(twins(), (4, 1))
        before = shown(one)
        with self.assertRaises(Leaving):
            with one.trial():
                other.flow((5, 1))
                one.flow((5, 1))
                with other.trial():
                    other.cost(0, 3, 3)
                    one.lift(0)
                raise Leaving
        self.assertEqual(shown(one), before)
        self.assertEqual((other.amount, other.web.roads[0], other.changes), ((5, 1), ("a", "b", 3, 3), 2))
        with self.assertRaises(Leaving):
            with other.trial():
                one.flow((6, 1))
                other.undo()
                raise Leaving
        self.assertEqual((one.amount, other.changes), ((6, 1), 2))


class Tried(unittest.TestCase):
    def test_what_the_function_returns(self):
        desk = begun()
        self.assertEqual(desk.tried(lambda passed: (passed is desk, passed.changes)), (True, 3))
        self.assertIsNone(desk.tried(lambda passed: passed.flow((5, 1))))
        self.assertEqual(desk.tried(action=lambda passed: passed.changes), 4)
        rows = []
        self.assertIs(desk.tried(lambda passed: rows), rows)

    def test_what_it_did_stays(self):
        desk = begun()

        def action(passed):
            passed.cost(0, 1, 1)
            passed.lift(0)
            return "done"

        self.assertEqual([desk.tried(action), desk.changes, desk.promises], ["done", 5, ()])
        desk.undo()
        self.assertEqual((desk.changes, desk.web.roads[0][2]), (4, 1))

    def test_errors_are_passed_on(self):
        for raised in RAISED + (Leaving(),):
            desk = begun()
            before = shown(desk)

            def action(passed):
                passed.cost(0, 1, 1)
                passed.undo()
                passed.undo()
                raise raised

            with self.assertRaises(type(raised)) as caught:
                desk.tried(action)
            self.assertIs(caught.exception, raised)
            self.assertEqual(shown(desk), before)

    def test_within_one_another(self):
        desk = begun()

        def inner(passed):
            passed.cost(0, 2, 2)
            raise Leaving

        def outer(passed):
            passed.cost(0, 1, 1)
            try:
                return passed.tried(inner)
            except Leaving:
                return passed.changes

        self.assertEqual([desk.tried(outer), desk.changes, desk.web.roads[0]], [4, 4, ("a", "b", 1, 1)])


class DrawnTrials(unittest.TestCase):
    def test_beside_a_desk_of_the_tests_own(self):
        chance = random.Random(42)
        for web in [cross(), twins()] + crossed_webs() + made_webs():
            desk, own = Desk(web, SIX), OwnDesk(web, SIX)
            for _ in range(12):
                self.one_trial(chance, desk, own, 3)
                self.assertEqual(shown(desk), own.shown())
            while desk.changes > 0:
                desk.undo()
                own.undo()
                self.assertEqual(shown(desk), own.shown())

    def one_trial(self, chance, desk, own, depth):
        """Some deeds at both desks in a trial, with others in it; perhaps it fails."""
        kept = list(own.past)
        try:
            with desk.trial():
                for _ in range(chance.randint(1, 4)):
                    if depth > 0 and chance.random() < 0.3:
                        self.one_trial(chance, desk, own, depth - 1)
                    self.one_deed(desk, own, *drawn_deed(chance, own))
                if chance.random() < 0.5:
                    raise Leaving
        except Leaving:
            own.past = kept
        self.assertEqual(shown(desk), own.shown())

    def one_deed(self, desk, own, name, passed):
        failed = []
        for one in (desk, own):
            try:
                getattr(one, name)(*passed)
            except (LookupError, ArithmeticError, ValueError) as error:
                failed.append(type(error))
        self.assertEqual(failed, failed[:1] * 2)


if __name__ == "__main__":
    unittest.main()
