"""Desks: a web and an amount that are changed, with promises that hold after each change."""

from closedroads.errors import Broken, InvalidNumber, InvalidWish, NothingToUndo
from closedroads.steady import need_amount
from closedroads.values import is_whole
from closedroads.webs import need_index, need_web
from closedroads.wishes import first_broken, is_wish


class Desk:
    """A web and an amount with promises; each change can be taken back."""

    def __init__(self, web, amount):
        need_web(web)
        need_amount(amount)
        # What the desk was after each change that can be taken back; the last one is what it is.
        self._states = ((web, amount, ()),)

    @property
    def web(self):
        """The web now."""
        return self._states[-1][0]

    @property
    def amount(self):
        """The amount now."""
        return self._states[-1][1]

    @property
    def promises(self):
        """The tuple of the wishes that are promised now."""
        return self._states[-1][2]

    @property
    def changes(self):
        """How many changes can be taken back."""
        return len(self._states) - 1

    def __eq__(self, other):
        # Not left to the other side, which may say that it is equal to anything.
        return type(other) is Desk and self is other

    def cost(self, index, base, rise):
        """Gives a road other costs."""
        self._change(self.web.costing(index, base, rise), self.amount, self.promises)

    def close(self, index):
        """Closes a road, and those that then lie on no way."""
        need_index(self.web, index)
        self._change(self.web.closed((index,)), self.amount, self.promises)

    def widen(self, road):
        """Adds a road."""
        self._change(self.web.widened(road), self.amount, self.promises)

    def flow(self, amount):
        """Sets another amount."""
        need_amount(amount)
        self._change(self.web, amount, self.promises)

    def promise(self, wish):
        """Adds a promise behind the others."""
        if not is_wish(wish):
            raise InvalidWish(wish)
        self._change(self.web, self.amount, self.promises + (wish,))

    def lift(self, index):
        """Takes a promise away."""
        promises = self.promises
        if not is_whole(index, len(promises) - 1):
            raise InvalidNumber(index)
        self._change(self.web, self.amount, promises[:index] + promises[index + 1:])

    def undo(self):
        """Takes back the last change that has not been taken back."""
        if self.changes == 0:
            raise NothingToUndo()
        self._states = self._states[:-1]

    def trial(self):
        """What a `with` statement needs whose rows change nothing if they end with an exception."""
        return Trial(self)

    def tried(self, action):
        """Calls the function with the desk in a trial and returns what it returns."""
        with self.trial() as desk:
            return action(desk)

    def _change(self, web, amount, promises):
        """Makes the desk so, unless a promise would not hold then."""
        broken = first_broken(promises, web, amount)
        if broken is not None:
            raise Broken(broken)
        self._states = self._states + ((web, amount, promises),)


class Trial:
    """Keeps what a desk is as rows of a `with` statement begin, and brings it back if they fail."""

    def __init__(self, desk):
        self._desk = desk
        self._mark = None

    def __enter__(self):
        self._mark = Mark(self._desk._states, self._mark)
        return self._desk

    def __exit__(self, kind, value, trace):
        desk = self._desk
        if kind is not None:
            desk._states = self._mark.states
        self._mark = self._mark.outer


class Mark:
    """What a desk was as a trial began, and the mark of the statement around it."""

    # One trial may be entered again within its own rows, so one mark would not do.

    def __init__(self, states, outer):
        self.states = states
        self.outer = outer
