"""A desk by lines: each command is a line, and so is its answer."""

from closedroads.closing import helping, level_without
from closedroads.desks import Desk
from closedroads.errors import InvalidCommand
from closedroads.pieces import making
from closedroads.steady import cheap_roads, costs, level
from closedroads.totals import least_total, waste
from closedroads.values import is_place, read_whole
from closedroads.webs import need_index


class Console:
    """A desk that is told by commands what to do and what to answer."""

    def __init__(self, web, amount):
        self._desk = Desk(web, amount)

    @property
    def desk(self):
        """The desk of this console."""
        return self._desk

    def __eq__(self, other):
        # Not left to the other side, which may say that it is equal to anything.
        return type(other) is Console and self is other

    def say(self, command):
        """Does a command and returns the answer, a string."""
        form, told = read_command(command)
        if form in DEEDS:
            deed = DEEDS[form]
            deed(self._desk, told)
            return "ok"
        if form not in QUESTIONS:
            raise InvalidCommand(command)
        question = QUESTIONS[form]
        return question(self._desk, told)


def read_command(command):
    """The form of any value as a command, and the list of what its words tell behind the first one."""
    if type(command) is not str:
        return "", []
    rows = [read_word(word) for word in command.split(" ")]
    form = " ".join([sign for sign, _ in rows])
    return form, [value for _, values in rows[1:] for value in values]


def read_word(word):
    """What stands for a word in the form of a command, and the list of the values that it tells."""
    if is_place(word):
        return "X", [word]
    numbers = [read_whole(part) for part in word.split("/")]
    if len(numbers) <= 2 and None not in numbers:
        return ("I" if len(numbers) == 1 else "N/D"), numbers
    # In capitals a word would be taken for one of the signs above; no command has such a word.
    return (word if word.islower() else ""), [word]


def slashed(fraction):
    """A fraction as it stands in an answer."""
    return f"{fraction[0]}/{fraction[1]}"


def spaced(indexes):
    """Indexes as they stand in an answer."""
    return " ".join([str(index) for index in indexes])


# Each of the following is passed the desk and what `read_command` tells of the words of its command.

def do_cost(desk, told):
    desk.cost(*told)


def do_close(desk, told):
    desk.close(*told)


def do_widen(desk, told):
    desk.widen(tuple(told))


def do_flow(desk, told):
    desk.flow(tuple(told))


def do_undo(desk, _):
    desk.undo()


def do_lift(desk, told):
    desk.lift(*told)


def do_promise(desk, told):
    desk.promise(tuple(told))


def ask_level(desk, _):
    return slashed(level(desk.web, desk.amount))


def ask_made(desk, _):
    how = making(desk.web)
    return "no" if how is None else how


def ask_helping(desk, _):
    found = helping(desk.web, desk.amount)
    return "none" if len(found) == 0 else spaced(found)


def ask_without(desk, told):
    fewer = level_without(desk.web, told[0], desk.amount)
    return "none" if fewer is None else slashed(fewer)


def ask_cost(desk, told):
    need_index(desk.web, told[0])
    return slashed(costs(desk.web, desk.amount)[told[0]])


def ask_cheap(desk, _):
    return spaced(cheap_roads(desk.web, desk.amount))


def ask_roads(desk, _):
    return str(len(desk.web))


def ask_waste(desk, _):
    return slashed(waste(desk.web, desk.amount))


def ask_total(desk, _):
    return slashed(least_total(desk.web, desk.amount))


# The forms of commands: I stands for an integer, N/D for two of them, X for a place.
DEEDS = {
    "cost I I I": do_cost,
    "close I": do_close,
    "widen X X I I": do_widen,
    "flow N/D": do_flow,
    "undo": do_undo,
    "lift I": do_lift,
    "promise made": do_promise,
    "promise calm": do_promise,
    "promise most N/D": do_promise,
    "promise least N/D": do_promise,
    "promise waste N/D": do_promise,
    "promise cheap I": do_promise,
}
QUESTIONS = {
    "level": ask_level,
    "made": ask_made,
    "helping": ask_helping,
    "without I": ask_without,
    "cost I": ask_cost,
    "cheap": ask_cheap,
    "roads": ask_roads,
    "waste": ask_waste,
    "total": ask_total,
}
