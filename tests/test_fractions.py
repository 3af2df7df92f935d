"""Fractions: which things are some, and how they are reckoned with [2, 3]."""

import unittest
from fractions import Fraction

from odd import no_fractions, no_fractions_from_nought, odd_things
from propfall import fractions

GREAT = 10 ** 40 - 1
SOME = [(0, 1), (1, 1), (-1, 1), (2, 1), (-7, 1), (1, 2), (-1, 2), (3, 2), (2, 3), (-5, 6), (7, 12), (35, 36),
        (GREAT, 1), (-GREAT, 1), (1, GREAT), (-1, GREAT), (GREAT, GREAT - 1), (10 ** 60, 10 ** 60 + 1)]


def pair(number):
    return (number.numerator, number.denominator)


class WhatIsOne(unittest.TestCase):
    def test_whole_numbers(self):
        for thing in (0, 1, -1, 12, GREAT, -GREAT):
            self.assertIs(fractions.is_whole(thing), True, thing)

    def test_no_whole_numbers(self):
        for thing in odd_things() + [[], [1], (1, 1)]:
            self.assertIs(fractions.is_whole(thing), False)

    def test_fractions(self):
        for thing in SOME:
            self.assertIs(fractions.is_fraction(thing), True, thing)
            self.assertIs(fractions.is_from_nought(thing), thing[0] >= 0, thing)

    def test_no_fractions(self):
        for thing in no_fractions():
            self.assertIs(fractions.is_fraction(thing), False)
        for thing in no_fractions_from_nought():
            self.assertIs(fractions.is_from_nought(thing), False)

    def test_fractions_are_just_those_in_lowest_terms(self):
        for top in range(-12, 13):
            for bottom in range(-12, 13):
                lowest = bottom >= 1 and pair(Fraction(top, bottom)) == (top, bottom)
                self.assertIs(fractions.is_fraction((top, bottom)), lowest, (top, bottom))


class Reckoned(unittest.TestCase):
    def test_whole_numbers_and_nought_are_over_one(self):
        self.assertEqual(fractions.of_whole(0), (0, 1))
        self.assertEqual(fractions.of_whole(-7), (-7, 1))
        self.assertEqual(fractions.reduced(0, 9), (0, 1))
        self.assertEqual(fractions.reduced(0, -9), (0, 1))
        self.assertEqual(fractions.minus((5, 7), (5, 7)), (0, 1))
        self.assertEqual(fractions.plus((1, 3), (2, 3)), (1, 1))

    def test_reduced_tells_lowest_terms(self):
        for top in range(-12, 13):
            for bottom in range(-12, 13):
                if bottom:
                    self.assertEqual(fractions.reduced(top, bottom), pair(Fraction(top, bottom)))
        self.assertEqual(fractions.reduced(6 * GREAT, -4 * GREAT), (-3, 2))

    def test_nothing_is_over_nought(self):
        self.assertRaises(AssertionError, fractions.reduced, 1, 0)
        self.assertRaises(AssertionError, fractions.over, (1, 2), (0, 1))

    def test_sums_products_and_the_like(self):
        for one in SOME:
            for other in SOME:
                left, right = Fraction(*one), Fraction(*other)
                self.assertEqual(fractions.plus(one, other), pair(left + right))
                self.assertEqual(fractions.minus(one, other), pair(left - right))
                self.assertEqual(fractions.times(one, other), pair(left * right))
                if right:
                    self.assertEqual(fractions.over(one, other), pair(left / right))
                self.assertIs(fractions.is_below(one, other), left < right)

    def test_what_is_told_may_be_handed_in_again(self):
        told = (1, GREAT)
        for one in SOME:
            told = fractions.plus(fractions.times(told, one), (1, 3))
            self.assertIs(fractions.is_fraction(told), True)
        self.assertGreater(len(str(told[1])), 40)


if __name__ == "__main__":
    unittest.main()
