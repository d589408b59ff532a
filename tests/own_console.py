"""What a command comes to by the words of the document, asked of the functions and of a desk."""

import re

from closedroads.closing import helping, level_without
from closedroads.pieces import making
from closedroads.steady import cheap_roads, costs, level
from closedroads.totals import least_total, waste
from closedroads.webs import need_index

# The forms of commands, as the document writes them.
FORMS = (
    "cost I A B", "close I", "widen X Y A B", "flow N/D", "undo", "lift I", "promise made", "promise calm",
    "promise most N/D", "promise least N/D", "promise waste N/D", "promise cheap I", "level", "made", "helping",
    "without I", "cost I", "cheap", "roads", "waste", "total",
)
NUMBER = "(?:0|[1-9][0-9]{0,6})"
SIGNS = {"I": NUMBER, "A": NUMBER, "B": NUMBER, "N/D": NUMBER + "/" + NUMBER, "X": "[a-z]", "Y": "[a-z]"}
PATTERNS = {form: re.compile(" ".join([SIGNS.get(word, word) for word in form.split(" ")])) for form in FORMS}


def form_of(command):
    """The form of a command; None for what is of no form."""
    if type(command) is not str:
        return None
    found = [form for form, pattern in PATTERNS.items() if pattern.fullmatch(command)]
    return found[0] if found else None


def numbers_of(command):
    """What the words behind the first one say, in order."""
    words = re.split("[ /]", command)[1:]
    return [int(word) if word.isdigit() else word for word in words]


def slashed(fraction):
    return "%d/%d" % fraction


def answered(form, command, desk):
    """Does at a desk, or asks of its web and amount, what the command says; the answer."""
    told = numbers_of(command)
    deeds = {
        "cost I A B": lambda: desk.cost(*told), "close I": lambda: desk.close(*told),
        "widen X Y A B": lambda: desk.widen(tuple(told)), "flow N/D": lambda: desk.flow(tuple(told)),
        "undo": lambda: desk.undo(), "lift I": lambda: desk.lift(*told),
    }
    if form in deeds or form.startswith("promise"):
        deeds.get(form, lambda: desk.promise(tuple(told)))()
        return "ok"
    return {
        "level": lambda: slashed(level(desk.web, desk.amount)),
        "made": lambda: making(desk.web) or "no",
        "helping": lambda: " ".join(map(str, helping(desk.web, desk.amount))) or "none",
        "without I": lambda: without(desk, *told),
        "cost I": lambda: cost(desk, *told),
        "cheap": lambda: " ".join(map(str, cheap_roads(desk.web, desk.amount))),
        "roads": lambda: str(len(desk.web)),
        "waste": lambda: slashed(waste(desk.web, desk.amount)),
        "total": lambda: slashed(least_total(desk.web, desk.amount)),
    }[form]()


def without(desk, index):
    told = level_without(desk.web, index, desk.amount)
    return "none" if told is None else slashed(told)


def cost(desk, index):
    need_index(desk.web, index)
    return slashed(costs(desk.web, desk.amount)[index])


def command_for(name, passed):
    """The command for a deed at a desk, a method's name and what it is passed."""
    flat = [word for value in passed for word in (value if type(value) is tuple else (value,))]
    words = [str(word) for word in flat]
    if name == "flow" or (name == "promise" and words[0] in ("most", "least", "waste")):
        words[-2:] = ["/".join(words[-2:])]
    return " ".join([name] + words)
