import random
import unittest

from closedroads.console import Console
from closedroads.desks import Desk
from closedroads.errors import (
    Broken, InvalidAmount, InvalidCommand, InvalidCost, InvalidNumber, InvalidWish, NotAWeb, NothingToUndo, NoWay,
    TooMany, UnknownRoad,
)
from tests.own_console import FORMS, answered, command_for, form_of
from tests.own_desk import OwnDesk, drawn_deed
from tests.samples import CROSS_TEXT, Agreeing, Touchy, cross, crossed_webs, made_webs, odd_values, sample_webs, twins
from tests.test_arguments import wrong_amounts, wrong_webs
from tests.test_desks import full_web, shown

SIX = (6, 1)
COMMANDS = (
    "cost 2 7 8", "cost 0 0 10", "cost 4 1000000 0", "close 2", "close 0", "widen a d 3 4", "widen b c 1000 0",
    "flow 1/2", "flow 1000000/999", "flow 6/1", "undo", "lift 0", "promise made", "promise calm", "promise most 92/1",
    "promise least 92/1", "promise waste 92/83", "promise cheap 2", "promise cheap 0", "level", "made", "helping",
    "without 2", "without 0", "cost 2", "cost 0", "cheap", "roads", "waste", "total",
)


def outcome(call):
    """What a call returns, or the error that it raises and what is told of it."""
    try:
        return call()
    except (LookupError, ArithmeticError, ValueError) as error:
        return type(error), vars(error)


class Talking(unittest.TestCase):
    def both(self):
        """A console and a desk in the same condition, with something to take back and to lift."""
        console, desk = Console(cross(), SIX), Desk(cross(), SIX)
        for one in (console.desk, desk):
            one.promise(("most", 92, 1))
            one.cost(0, 0, 10)
        return console, desk

    def check(self, console, desk, command):
        """The command comes to the same as at the desk, or it is refused and nothing changes."""
        form, before = form_of(command), shown(console.desk)
        if form is None:
            with self.assertRaises(InvalidCommand) as caught:
                console.say(command)
            self.assertIs(type(caught.exception), InvalidCommand)
            self.assertIs(caught.exception.given, command)
            self.assertEqual(shown(console.desk), before)
            return None
        told = outcome(lambda: console.say(command))
        self.assertEqual(told, outcome(lambda: answered(form, command, desk)), command)
        self.assertEqual(shown(console.desk), shown(desk), command)
        if type(told) is not str:
            self.assertEqual(shown(console.desk), before, command)
        return told


class NewConsoles(Talking):
    def test_its_desk(self):
        for web in sample_webs():
            console = Console(web, SIX)
            self.assertIs(type(console.desk), Desk)
            self.assertEqual(shown(console.desk), (str(web), SIX, (), 0))
            self.assertIs(console.desk, console.desk)
            self.assertTrue(console)
        self.assertEqual(shown(Console(amount=SIX, web=cross()).desk), (CROSS_TEXT, SIX, (), 0))

    def test_wrong_webs_and_amounts(self):
        for value in wrong_webs():
            with self.assertRaises(NotAWeb) as caught:
                Console(value, None)
            self.assertIs(caught.exception.given, value)
        for value in wrong_amounts():
            with self.assertRaises(InvalidAmount) as caught:
                Console(cross(), value)
            self.assertIs(caught.exception.given, value)

    def test_equal_to_nothing_of_another_class(self):
        console = Console(cross(), SIX)
        for value in odd_values() + [console.desk, Console(cross(), SIX), Agreeing(), Touchy()]:
            self.assertIs(console == value, False)
            self.assertIs(console != value, True)
        self.assertIs(console == console, True)

    def test_the_desk_may_be_changed_directly(self):
        console = Console(cross(), SIX)
        console.desk.close(2)
        self.assertEqual([console.say("roads"), console.say("level"), console.say("undo"), console.say("level")],
                         ["4", "83/1", "ok", "92/1"])
        with self.assertRaises(ZeroDivisionError):
            with console.desk.trial():
                console.say("close 2")
                raise ZeroDivisionError
        self.assertEqual([console.say("level"), console.desk.changes], ["92/1", 0])


class Answers(Talking):
    def test_the_examples(self):
        console = Console(cross(), SIX)
        asked = ["level", "made", "helping", "without 2", "cost 2", "cheap", "close 2", "level"]
        told = ["92/1", "no", "2", "83/1", "12/1", "0 1 2 3 4", "ok", "83/1"]
        self.assertEqual([console.say(command) for command in asked], told)
        asked = ["made", "promise made", "helping", "flow 1/2", "level", "cost 0", "undo", "roads", "waste", "total"]
        told = ["[(0 2) (1 3)]", "ok", "none", "ok", "211/4", "5/2", "ok", "4", "1/1", "498/1"]
        self.assertEqual([console.say(command) for command in asked], told)
        with self.assertRaises(Broken) as caught:
            console.say("widen b c 0 0")
        self.assertEqual(caught.exception.index, 0)

    def test_by_name(self):
        self.assertEqual(Console(cross(), SIX).say(command="level"), "92/1")

    def test_each_form(self):
        self.assertEqual({form_of(command) for command in COMMANDS}, set(FORMS))
        for command in COMMANDS:
            console, desk = self.both()
            self.assertIsNotNone(self.check(console, desk, command))
            self.assertIs(type(outcome(lambda: console.say("level"))), str)

    def test_answers_of_many_webs(self):
        for web in sample_webs() + [full_web()]:
            for amount in ((1, 3), SIX, (1000000, 999)):
                console, desk = Console(web, amount), Desk(web, amount)
                asked = ["level", "made", "helping", "cheap", "roads", "waste", "total"]
                asked += [word + " " + str(index) for word in ("without", "cost") for index in range(len(web) + 1)]
                for command in asked:
                    self.check(console, desk, command)
                self.assertEqual(shown(console.desk), (str(web), amount, (), 0))

    def test_rows_of_indexes(self):
        middles = Console(cross().widened(("b", "c", 1000, 1)), SIX)
        self.assertEqual([middles.say("helping"), middles.say("cheap")], ["2", "0 1 2 3 4"])
        parted = Console(cross().turned(), SIX)
        self.assertEqual([parted.say("helping"), parted.say("made")], ["2", "no"])
        single = Console(twins().closed((0,)), (1, 1))
        told = [single.say(command) for command in ("without 0", "helping", "cheap", "made", "cost 0", "roads")]
        self.assertEqual(told, ["none", "none", "0", "0", "3/1", "1"])

    def test_promises(self):
        console = Console(cross(), SIX)
        wishes = ("most 92/1", "least 0/1", "waste 4/3", "cheap 2", "most 9999999/1")
        for wish in wishes:
            self.assertEqual(console.say("promise " + wish), "ok")
        told = (("most", 92, 1), ("least", 0, 1), ("waste", 4, 3), ("cheap", 2), ("most", 9999999, 1))
        self.assertEqual(console.desk.promises, told)
        self.assertEqual([console.say("lift 1"), console.desk.promises], ["ok", told[:1] + told[2:]])
        calm = Console(twins(), SIX)
        self.assertEqual([calm.say("promise made"), calm.say("promise calm")], ["ok", "ok"])
        self.assertEqual(calm.desk.promises, (("made",), ("calm",)))


class BentCommands(Talking):
    def test_one_sign_put_in_taken_out_or_exchanged(self):
        signs = " 0123/7abdmXNI-+._\nA\t"
        for command in COMMANDS:
            others = [command[:at] + command[at + 1:] for at in range(len(command))]
            others += [command[:at] + sign + command[at:] for at in range(len(command) + 1) for sign in signs]
            others += [command[:at] + sign + command[at + 1:] for at in range(len(command)) for sign in signs]
            others += [command[:at] + command[at:at + 2][::-1] + command[at + 2:] for at in range(len(command))]
            for other in sorted(set(others)):
                console, desk = self.both()
                self.check(console, desk, other)

    def test_words_too_many_and_too_few(self):
        words = {word for command in COMMANDS for word in command.split(" ")}
        words = sorted(words | {"", "I", "N/D", "X", "ok", "1/2/3"})
        console, desk = self.both()
        for one in words:
            self.refused_or_same(one)
            for other in words:
                self.refused_or_same(one + " " + other)
                self.refused_or_same("promise " + one + " " + other)
        for command in COMMANDS:
            for word in words:
                self.refused_or_same(command + " " + word)
                self.refused_or_same(word + " " + command)
            for at in range(len(command.split(" "))):
                rest = command.split(" ")
                del rest[at]
                self.refused_or_same(" ".join(rest))
        self.assertEqual(shown(console.desk), shown(desk))

    def refused_or_same(self, command):
        self.check(*self.both(), command)

    def test_commands_of_no_form(self):
        told = [
            "", " ", "I", "N/D", "close I", "cost I A B", "cost I", "widen X Y A B", "flow N/D", "widen X X 0 0",
            "Level", "LEVEL", "level ", " level", "level\n", "lev el", "level 0", "made 1", "roads roads", "undo 1",
            "undo undo", "cost", "cost 1 2", "cost 1 2 3 4", "cost  1", "cost 01", "cost 00", "cost -1", "cost +1",
            "cost 1.", "cost 1/1", "cost 10000000", "cost 1 10000000 1", "cost 0 00 1", "close", "close 1 2",
            "close 1,2", "close (1)", "close one", "close 0x1", "close 1_0", "close 1e3", "flow 1", "flow 1/",
            "flow /1", "flow 1/1/1", "flow 1 / 1", "flow 1 1", "flow 01/1", "flow 1/01", "flow -1/1", "flow 1/-1",
            "flow 10000000/1", "flow 1/10000000", "lift", "lift x", "widen a b 0", "widen ab 0 0", "widen a b 0 0 0",
            "widen A b 0 0", "widen a 1 0 0", "widen 1 2 3 4", "widen a b x y", "promise", "promise made 1",
            "promise calm 1/1", "promise most", "promise most 1", "promise most 1/1 1", "promise cheap",
            "promise cheap 1/1", "promise cheap a", "promise waste 1", "promise best", "promise least",
            "promise least 1", "promise Made", "promise steady", "help", "costs", "without", "without a",
            "without 1/1", "without 1 1", "cheapest", "cheap 1", "total 1", "waste 1/1", "a", "a b", "0", "1/2",
            "a b 0 0", "undo\nundo", "level\nlevel", "level undo", "ok", "none", "no", "close 1 ", "  undo",
            "promise  made",
        ]
        for command in told:
            self.assertIsNone(form_of(command), command)
            self.refused_or_same(command)
        others = [b"level", ["level"], ("level",), ("close", 1), {"level": 1}, 5, Touchy(), Agreeing()]
        for value in odd_values() + others:
            self.refused_or_same(value)

    def test_long_commands(self):
        told = ["level" * 800, " " * 4000, "9" * 4000, "close " + "1" * 3990, "flow 1/" + "0" * 3990, "/" * 4000]
        for command in told:
            self.refused_or_same(command)


class WrongNumbers(Talking):
    """Commands of the right form whose numbers do not go raise what the desk raises."""

    def test_each_of_them(self):
        told = {
            "cost 5 0 0": (UnknownRoad, {"given": 5}),
            "cost 9999999 9999999 9999999": (UnknownRoad, {"given": 9999999}),
            "cost 0 1000001 9999999": (InvalidCost, {"given": 1000001}),
            "cost 0 0 9999999": (InvalidCost, {"given": 9999999}),
            "close 5": (UnknownRoad, {"given": 5}),
            "widen b a 0 0": (InvalidNumber, {"given": ("b", "a", 0, 0)}),
            "widen a a 0 0": (InvalidNumber, {"given": ("a", "a", 0, 0)}),
            "widen a b 1000001 0": (InvalidNumber, {"given": ("a", "b", 1000001, 0)}),
            "widen a b 0 1000001": (InvalidNumber, {"given": ("a", "b", 0, 1000001)}),
            "widen x y 0 0": (NoWay, {}),
            "flow 2/4": (InvalidAmount, {"given": (2, 4)}),
            "flow 0/1": (InvalidAmount, {"given": (0, 1)}),
            "flow 1/0": (InvalidAmount, {"given": (1, 0)}),
            "flow 1000001/1": (InvalidAmount, {"given": (1000001, 1)}),
            "flow 1/1001": (InvalidAmount, {"given": (1, 1001)}),
            "flow 7/1": (Broken, {"index": 0}),
            "lift 1": (InvalidNumber, {"given": 1}),
            "promise most 2/4": (InvalidWish, {"given": ("most", 2, 4)}),
            "promise most 1/0": (InvalidWish, {"given": ("most", 1, 0)}),
            "promise least 0/2": (InvalidWish, {"given": ("least", 0, 2)}),
            "promise waste 8/6": (InvalidWish, {"given": ("waste", 8, 6)}),
            "promise cheap 8": (InvalidWish, {"given": ("cheap", 8)}),
            "promise cheap 5": (Broken, {"index": 1}),
            "promise made": (Broken, {"index": 1}),
            "promise calm": (Broken, {"index": 1}),
            "promise most 91/1": (Broken, {"index": 1}),
            "promise least 93/1": (Broken, {"index": 1}),
            "promise waste 1/1": (Broken, {"index": 1}),
            "without 5": (UnknownRoad, {"given": 5}),
            "without 9999999": (UnknownRoad, {"given": 9999999}),
            "cost 5": (UnknownRoad, {"given": 5}),
            "cost 8": (UnknownRoad, {"given": 8}),
        }
        for command, (kind, attributes) in told.items():
            console, desk = self.both()
            self.assertEqual(self.check(console, desk, command), (kind, attributes), command)

    def test_where_there_is_nothing_or_too_much(self):
        console = Console(twins().closed((0,)), SIX)
        self.assertEqual(outcome(lambda: console.say("undo")), (NothingToUndo, {}))
        self.assertEqual(outcome(lambda: console.say("close 0")), (NoWay, {}))
        self.assertEqual(outcome(lambda: console.say("lift 0")), (InvalidNumber, {"given": 0}))
        full = Console(full_web(), SIX)
        self.assertEqual(outcome(lambda: full.say("widen a b 0 0")), (TooMany, {"given": 9}))
        self.assertEqual([console.desk.changes, full.desk.changes], [0, 0])


class DrawnCommands(Talking):
    def test_beside_a_desk(self):
        chance = random.Random(61)
        asked = ("level", "made", "helping", "cheap", "roads", "waste", "total", "without 1", "cost 1")
        for web in [cross(), twins(), full_web()] + crossed_webs()[::2] + made_webs()[::2]:
            console, desk, own = Console(web, SIX), Desk(web, SIX), OwnDesk(web, SIX)
            for _ in range(25):
                name, passed = drawn_deed(chance, own)
                outcome(lambda: getattr(own, name)(*passed))
                command = command_for(name, passed)
                if form_of(command) is None:
                    # The level may have more figures than a command may.
                    self.assertIsNone(self.check(console, desk, command))
                    outcome(lambda: getattr(console.desk, name)(*passed))
                    outcome(lambda: getattr(desk, name)(*passed))
                else:
                    self.check(console, desk, command)
                self.assertEqual(shown(console.desk), own.shown())
                self.check(console, desk, chance.choice(asked))


if __name__ == "__main__":
    unittest.main()
