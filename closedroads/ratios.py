"""Fractions: pairs of a numerator and a denominator without a common divisor."""

from math import gcd


def lowest(top, bottom):
    """The fraction in lowest terms; `bottom` is above 0."""
    divisor = gcd(top, bottom)
    return (top // divisor, bottom // divisor)


def are_fraction(top, bottom):
    """Whether any two values are numerator and denominator of a fraction from 0 on."""
    # isinstance would take True and False, which are no integers here.
    if type(top) is not int or type(bottom) is not int:
        return False
    return top >= 0 and bottom > 0 and gcd(top, bottom) == 1
