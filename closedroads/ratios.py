"""Fractions: pairs of a numerator and a denominator without a common divisor."""

from math import gcd, lcm


def lowest(top, bottom):
    """The fraction in lowest terms; `bottom` is above 0."""
    divisor = gcd(top, bottom)
    return (top // divisor, bottom // divisor)


def are_fraction(top, bottom):
    """Whether any two values are numerator and denominator of a fraction from 0 on."""
    # isinstance would take True and False, which are no integers here.
    if type(top) is not int or type(bottom) is not int:
        return False
    return top >= 0 and bottom > 0 and gcd(top, bottom) == 1


def is_fraction(value):
    """Whether any value is a fraction from 0 on."""
    return type(value) is tuple and len(value) == 2 and are_fraction(value[0], value[1])


def is_less(one, other):
    """Whether a fraction is less than another one."""
    return one[0] * other[1] < other[0] * one[1]


def plus(one, other):
    """The sum of two fractions."""
    return lowest(one[0] * other[1] + other[0] * one[1], one[1] * other[1])


def minus(one, other):
    """A fraction less another one; it may be below 0."""
    return lowest(one[0] * other[1] - other[0] * one[1], one[1] * other[1])


def times(one, other):
    """The product of two fractions."""
    return lowest(one[0] * other[0], one[1] * other[1])


def quotient(one, other):
    """A fraction divided by one above 0."""
    return lowest(one[0] * other[1], one[1] * other[0])


def summed(fractions):
    """The sum of all fractions of a list."""
    whole = (0, 1)
    for fraction in fractions:
        whole = plus(whole, fraction)
    return whole


def ascending(fractions):
    """The list of the unlike ones among these fractions, from the least to the greatest."""
    common = 1
    for fraction in fractions:
        common = lcm(common, fraction[1])
    tops = sorted({top * (common // bottom) for top, bottom in fractions})
    return [lowest(top, common) for top in tops]
