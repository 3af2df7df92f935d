"""Fractions: tuples (top, bottom) of whole numbers in lowest terms, bottom 1 or more."""

from math import gcd

NOUGHT = (0, 1)


def is_whole(thing):
    """Tell whether a thing of any kind is a whole number."""
    # The very class is asked for: isinstance would let truths by, and
    # objects of foreign classes that compare as they please.
    return type(thing) is int


def is_pair(thing):
    """Tell whether a thing of any kind is a tuple of two things."""
    return type(thing) is tuple and len(thing) == 2


def is_fraction(thing):
    """Tell whether a thing of any kind is a fraction."""
    if not is_pair(thing):
        return False
    top, bottom = thing
    if not is_whole(top) or not is_whole(bottom):
        return False
    return bottom >= 1 and gcd(top, bottom) == 1


def is_from_nought(thing):
    """Tell whether a thing of any kind is a fraction from nought on."""
    return is_fraction(thing) and thing[0] >= 0


def reduced(top, bottom):
    """Tell the fraction top / bottom, of any two whole numbers, bottom not nought."""
    assert bottom != 0
    common = gcd(top, bottom)
    if bottom < 0:
        # The sign of a fraction stands in its top.
        common = -common
    return (top // common, bottom // common)


def of_whole(number):
    """Tell the fraction that is a whole number."""
    return (number, 1)


def plus(one, other):
    """Tell the sum of two fractions."""
    return reduced(one[0] * other[1] + other[0] * one[1], one[1] * other[1])


def minus(one, other):
    """Tell by how much one fraction is above the other."""
    return reduced(one[0] * other[1] - other[0] * one[1], one[1] * other[1])


def times(one, other):
    """Tell the product of two fractions."""
    return reduced(one[0] * other[0], one[1] * other[1])


def over(one, other):
    """Tell one fraction divided by the other, which is not nought."""
    return reduced(one[0] * other[1], one[1] * other[0])


def is_below(one, other):
    """Tell whether one fraction is less than the other."""
    return one[0] * other[1] < other[0] * one[1]


def _merged(one, other):
    """Tell the unlike ones of two rising lists of fractions, rising."""
    both = []
    at = 0
    for number in one:
        while at < len(other) and is_below(other[at], number):
            both.append(other[at])
            at += 1
        if at < len(other) and other[at] == number:
            at += 1
        both.append(number)
    return both + other[at:]


def rising(numbers):
    """Tell the unlike ones of a list of fractions, rising."""
    # Tuples rise otherwise than the fractions that they are.
    if len(numbers) < 2:
        return list(numbers)
    half = len(numbers) // 2
    return _merged(rising(numbers[:half]), rising(numbers[half:]))


def greater(one, other):
    """Tell the greater one of two fractions."""
    return other if is_below(one, other) else one


def lesser(one, other):
    """Tell the lesser one of two fractions."""
    return other if is_below(other, one) else one
