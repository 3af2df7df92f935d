"""Fractions: tuples (top, bottom) of whole numbers in lowest terms, bottom 1 or more."""

from math import gcd


def is_whole(thing):
    """Tell whether a thing of any kind is a whole number."""
    # The very class is asked for: isinstance would let truths by, and
    # objects of foreign classes that compare as they please.
    return type(thing) is int


def is_pair(thing):
    """Tell whether a thing of any kind is a tuple of two things."""
    return type(thing) is tuple and len(thing) == 2


def is_fraction(thing):
    """Tell whether a thing of any kind is a fraction."""
    if not is_pair(thing):
        return False
    top, bottom = thing
    if not is_whole(top) or not is_whole(bottom):
        return False
    return bottom >= 1 and gcd(top, bottom) == 1


def is_from_nought(thing):
    """Tell whether a thing of any kind is a fraction from nought on."""
    return is_fraction(thing) and thing[0] >= 0


def reduced(top, bottom):
    """Tell the fraction top / bottom, of any two whole numbers, bottom not nought."""
    assert bottom != 0
    common = gcd(top, bottom)
    if bottom < 0:
        # The sign of a fraction stands in its top.
        common = -common
    return (top // common, bottom // common)


def of_whole(number):
    """Tell the fraction that is a whole number."""
    return (number, 1)


def plus(one, other):
    """Tell the sum of two fractions."""
    return reduced(one[0] * other[1] + other[0] * one[1], one[1] * other[1])


def minus(one, other):
    """Tell by how much one fraction is above the other."""
    return reduced(one[0] * other[1] - other[0] * one[1], one[1] * other[1])


def times(one, other):
    """Tell the product of two fractions."""
    return reduced(one[0] * other[0], one[1] * other[1])


def over(one, other):
    """Tell one fraction divided by the other, which is not nought."""
    return reduced(one[0] * other[1], one[1] * other[0])


def is_below(one, other):
    """Tell whether one fraction is less than the other."""
    return one[0] * other[1] < other[0] * one[1]
