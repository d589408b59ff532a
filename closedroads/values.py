"""What values are: integers within a limit, rows of indexes, places, roads, and words for integers."""

from closedroads.limits import MOST_COST


def is_whole(value, most):
    """Whether any value is an integer from 0 to `most`."""
    # isinstance would take True and False, which are no integers here.
    return type(value) is int and 0 <= value <= most


def is_row(value, many):
    """Whether any value is a tuple of indexes, each of them below `many`."""
    return type(value) is tuple and all([is_whole(index, many - 1) for index in value])


def is_place(value):
    """Whether any value is a place."""
    return type(value) is str and len(value) == 1 and "a" <= value <= "z"


def is_cost(value):
    """Whether any value may be one of the two numbers of a road."""
    return is_whole(value, MOST_COST)


def is_road(value):
    """Whether any value is a road."""
    if type(value) is not tuple or len(value) != 4:
        return False
    low, high, base, rise = value
    if not is_place(low) or not is_place(high) or low >= high:
        return False
    return is_cost(base) and is_cost(rise)


def read_whole(word):
    """The integer that Python writes as this word; None for other words.

    Words with more digits than MOST_COST has, and signs, give None, too.
    """
    # The length is looked at first because Python refuses to read very long numbers.
    if len(word) > len(str(MOST_COST)) or not word.isascii() or not word.isdigit():
        return None
    number = int(word)
    return number if str(number) == word else None
