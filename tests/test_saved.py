"""What saves props: sharp strengths, corners, under one loading and under several [31, 32, 33]."""

import unittest
from fractions import Fraction
from itertools import permutations, product

import plainly
from cases import cases, great_case, tight_cases
from odd import Agreeable, Quarrelsome, odd_things
from plainly import everything, is_row, lots_within, pair
from propfall.falls import standing
from propfall.planks import Plank
from propfall.saved import corner, fair, is_sharp, least_more, saved_by, sharp, steady

# Weak ones at 3 and 6; either one saved bears less once the other one stands.
PLANK = Plank(9, [(3, (1, 1)), (6, (1, 1))])
WEIGHTS = [((3, 1), (2, 1)), ((6, 1), (2, 1))]
TINY = Fraction(1, 10 ** 12)


def some_cases(seed, many=40, most_props=4):
    return cases(many, most_props, seed) + tight_cases(many, most_props, seed)


def stronger(plank, strengths):
    """Tell the plank like one but for some strengths, a dict of Fractions."""
    return plank.strengthened([pair(strengths[prop]) if prop in strengths else strength
                               for prop, (_, strength) in enumerate(plank.props())])


def with_strengths(plank, weights, strengths):
    return standing(stronger(plank, strengths), weights)


def laid_on(plank, weights, lot):
    return plainly.laid(plank, weights, plainly.rests_of(plank, lot))


def goes_first(test, plank, weights, lot, row, never=()):
    """Look at a row: each time the first one of all that could go, and none left behind it."""
    test.assertIs(type(row), list)
    for prop in row:
        test.assertEqual(prop, min(set(plainly.overlaid(plank, weights, lot)) - set(never)))
        lot = plainly.without(lot, prop)
    test.assertEqual(set(plainly.overlaid(plank, weights, lot)) - set(never), set())
    return lot


def loadings_of(seed, many=30):
    """Tell tuples (plank, loadings) of one to eight loadings, none among them, two alike."""
    found = []
    for at, (plank, weights) in enumerate(tight_cases(many, 4, seed)):
        many = at % 4 + 1
        parts = [[(place, pair(many * Fraction(*weight))) for place, weight in weights[k::many]] for k in range(many)]
        found.append((plank, parts + [[], weights[:1], weights[:1], weights][:at % 5]))
    assert {len(loadings) for _, loadings in found} >= {1, 2, 3, 4, 5, 6, 7, 8}
    return found


class Sharp(unittest.TestCase):
    def test_a_plank(self):
        self.assertEqual(sharp(PLANK, WEIGHTS, 0), ((3, 1), (0,), [1], (), [1]))
        strong = PLANK.strengthened([(1, 1), (2, 1)])
        self.assertEqual(sharp(strong, WEIGHTS, 0), ((2, 1), (0, 1), [], (), [1]))
        self.assertEqual(sharp(strong, WEIGHTS, 1), ((3, 1), (1,), [0], (), [0]))
        self.assertEqual(sharp(strong, [], 1), ((0, 1), (0, 1), [], (0,), []))

    def test_by_standing_at_it_less_and_more(self):
        seen = set()
        for plank, weights in some_cases(61):
            for prop in everything(plank):
                told = sharp(plank, weights, prop)
                self.assertIs(type(told), tuple)
                strength, lot, row, other, its = told
                strength = Fraction(*strength)
                self.assertIn(prop, lot)
                self.assertNotIn(prop, other)
                for more in (0, TINY, 1, 10 ** 9):
                    self.assertEqual(with_strengths(plank, weights, {prop: strength + more}), lot)
                less = [below for below in (strength - TINY, strength / 2, Fraction(0)) if 0 <= below < strength]
                for below in less:
                    self.assertEqual(with_strengths(plank, weights, {prop: below}), other)
                self.assertEqual(plainly.standing(plank, weights, plainly.without(everything(plank), prop)), other)
                seen.add((strength > 0, len(row) > 1, len(its) > 1, lot == other + (prop,)))
        self.assertTrue(len(seen) > 5, seen)

    def test_both_rows_by_the_first_that_could_go_each_time(self):
        for plank, weights in some_cases(62):
            for prop in everything(plank):
                _, lot, row, other, its = sharp(plank, weights, prop)
                self.assertEqual(goes_first(self, plank, weights, everything(plank), row, (prop,)), lot)
                rest = plainly.without(everything(plank), prop)
                self.assertEqual(goes_first(self, plank, weights, rest, its), other)

    def test_great_ones(self):
        plank, weights = great_case((1, 10 ** 39))
        strength, lot, row, other, its = sharp(plank, weights, 5)
        self.assertEqual((lot, other, len(row), len(its)), ((5,), (), 11, 11))
        on = dict(enumerate(laid_on(plank, weights, lot).values()))
        self.assertEqual(strength, pair(on[1]))


class IsSharp(unittest.TestCase):
    def test_rows_in_all_orders(self):
        orders = set()
        for plank, weights in some_cases(63, 20):
            for prop in everything(plank):
                told = sharp(plank, weights, prop)
                self.assertIs(is_sharp(plank, weights, prop, told), True)
                strong = stronger(plank, {prop: Fraction(10 ** 9)})
                for row in map(list, permutations(told[2])):
                    right = is_row(strong, weights, everything(plank), row)
                    orders.add((len(row), right))
                    self.assertIs(is_sharp(plank, weights, prop, (*told[:2], row, *told[3:])), right)
                rest = plainly.without(everything(plank), prop)
                for its in map(list, permutations(told[4])):
                    right = is_row(plank, weights, rest, its)
                    self.assertIs(is_sharp(plank, weights, prop, (*told[:4], its)), right)
        self.assertTrue({(2, True), (2, False), (3, True), (3, False)} <= orders, orders)

    def test_wrong_ones(self):
        plank = Plank(12, [(3, (1, 1)), (6, (1, 1)), (9, (9, 1))])
        weights = WEIGHTS + [((9, 1), (1, 1))]
        told = sharp(plank, weights, 0)
        self.assertEqual(told, ((3, 1), (0, 2), [1], (2,), [1]))
        others = [[(8, 3), (4, 1), (2, 1), (6, 2), (-3, 1), 3, None, True, [3, 1], (3, True), (3.0, 1), "31"],
                  [(0,), (2,), (0, 1, 2), (0, 1), (2, 0), (0, 0, 2), [0, 2], (), None, (False, 2), (0, 3), (0, 2, 2)],
                  [[], [0], [2], [1, 0], [0, 1], [1, 2], [1, 1], [3], (1,), None, [True], {1: 1}, "1", [1.0]],
                  [(), (0,), (1,), (1, 2), (0, 2), [2], (2, 2), None, (2.0,), 2],
                  [[], [0], [2], [1, 0], [0, 1], [1, 2], [1, 1], [3], (1,), None, [True], {1: 1}, "1", [1.0]]]
        odd = [Agreeable(), Quarrelsome(), [Agreeable()], (Agreeable(),), (Quarrelsome(), 2), (0, Agreeable())]
        for at, wrong in enumerate(others):
            for thing in wrong + odd:
                self.assertIs(is_sharp(plank, weights, 0, (*told[:at], thing, *told[at + 1:])), False, (at, thing))
        for thing in odd_things() + [told[:4], told + (None,), list(told), told[::-1], (told,), {0: told}]:
            self.assertIs(is_sharp(plank, weights, 0, thing), False)
        self.assertIs(is_sharp(plank, weights, 0, told), True)
        self.assertIs(is_sharp(plank, weights, 1, told), False)
        self.assertIs(is_sharp(plank, weights[1:], 0, told), False)


class SavedBy(unittest.TestCase):
    def test_a_plank(self):
        self.assertEqual(saved_by(PLANK, WEIGHTS, 0), [(0, (2, 1))])
        strong = PLANK.strengthened([(1, 1), (2, 1)])
        self.assertEqual(saved_by(strong, WEIGHTS, 1), [(0, (1, 1)), (1, (1, 1))])
        self.assertEqual(saved_by(strong, [], 1), [])
        self.assertEqual(saved_by(PLANK.strengthened([(2, 1), (2, 1)]), WEIGHTS, 1), [])

    def test_by_so_much_more_and_no_less(self):
        many = set()
        for plank, weights in some_cases(64):
            stood = standing(plank, weights)
            strengths = [Fraction(*strength) for _, strength in plank.props()]
            for prop in everything(plank):
                told = saved_by(plank, weights, prop)
                self.assertIs(type(told), list)
                if prop in stood:
                    self.assertEqual(told, [])
                    continue
                many.add(len(told))
                self.assertEqual([other for other, _ in told], sorted({other for other, _ in told}))
                self.assertIn(prop, dict(told))
                for other in everything(plank):
                    if other in dict(told):
                        more = Fraction(*dict(told)[other])
                        self.assertTrue(more > 0)
                        self.assertIn(prop, with_strengths(plank, weights, {other: strengths[other] + more}))
                        less = max(strengths[other] + more - TINY, (strengths[other] * 2 + more) / 2)
                        self.assertNotIn(prop, with_strengths(plank, weights, {other: less}))
                    else:
                        self.assertNotIn(prop, with_strengths(plank, weights, {other: Fraction(10 ** 9)}))
        self.assertTrue({1, 2, 3} <= many, many)


class Corner(unittest.TestCase):
    def test_a_plank(self):
        self.assertEqual(corner(PLANK, WEIGHTS, (0,)), ([(0, (3, 1))], (0,), [1]))
        self.assertEqual(corner(PLANK, WEIGHTS, (0, 1)), ([(0, (2, 1)), (1, (2, 1))], (0, 1), []))
        self.assertEqual(least_more(PLANK, WEIGHTS, (0,)), ([(0, (2, 1))], (2, 1)))
        self.assertEqual(least_more(PLANK, WEIGHTS, (0, 1)), ([(0, (1, 1)), (1, (1, 1))], (2, 1)))
        self.assertEqual(least_more(PLANK, WEIGHTS[:1], (0, 1)), ([(0, (1, 1)), (1, (0, 1))], (1, 1)))
        self.assertEqual(least_more(PLANK, [], (0, 1)), ([(0, (0, 1)), (1, (0, 1))], (0, 1)))

    def test_by_these_strengths_all_stand_and_by_less_one_goes(self):
        sizes = set()
        for plank, weights in some_cases(65, 25):
            for lot in lots_within(everything(plank))[1:]:
                told = corner(plank, weights, lot)
                self.assertIs(type(told), tuple)
                numbers, left, row = told
                self.assertIs(type(numbers), list)
                self.assertEqual(tuple(prop for prop, _ in numbers), lot)
                self.assertEqual(goes_first(self, plank, weights, everything(plank), row, lot), left)
                least = {prop: Fraction(*strength) for prop, strength in numbers}
                on = laid_on(plank, weights, left)
                self.assertEqual(least, {prop: on[prop] for prop in lot})
                self.assertEqual(with_strengths(plank, weights, least), left)
                sizes.add(len(lot))
                for prop in lot:
                    if least[prop] > 0:
                        others = {other: Fraction(10 ** 9) for other in lot}
                        others[prop] = max(least[prop] - TINY, least[prop] / 2)
                        self.assertNotIn(prop, with_strengths(plank, weights, others))
        self.assertEqual(sizes, {1, 2, 3, 4})

    def test_how_much_more(self):
        for plank, weights in some_cases(66, 25):
            for lot in lots_within(everything(plank))[1:]:
                found, total = least_more(plank, weights, lot)
                numbers = corner(plank, weights, lot)[0]
                for (prop, more), (_, strength) in zip(found, numbers):
                    had = Fraction(*plank.props()[prop][1])
                    self.assertEqual(more, pair(max(Fraction(*strength) - had, Fraction(0))))
                self.assertEqual((type(found), tuple(prop for prop, _ in found)), (list, lot))
                self.assertEqual(total, pair(sum((Fraction(*more) for _, more in found), Fraction(0))))
                having = {prop: Fraction(*plank.props()[prop][1]) + Fraction(*more) for prop, more in found}
                self.assertTrue(set(lot) <= set(with_strengths(plank, weights, having)))


class Loadings(unittest.TestCase):
    def test_a_plank(self):
        loadings = [[], WEIGHTS[:1], WEIGHTS, WEIGHTS]
        self.assertEqual(fair(PLANK, loadings, (0,)), [(0, (3, 1), 2)])
        self.assertEqual(fair(PLANK, loadings, (0, 1)), [(0, (2, 1), 1), (1, (2, 1), 2)])
        self.assertEqual(steady(PLANK, loadings, (0, 1)), ([(0, (2, 1), 1), (1, (2, 1), 2)], (0, 1)))
        self.assertEqual(steady(PLANK, loadings, (0,)), ([(0, (3, 1), 2)], (0,)))
        self.assertEqual(fair(PLANK, [[], []], (1,)), [(1, (0, 1), 0)])
        self.assertEqual(steady(PLANK, [[], []], (1,)), ([(1, (0, 1), 0)], (0, 1)))

    def test_a_steady_strength_above_the_fair_one(self):
        # The first loading fells 0, which else bears some of the second one.
        plank = Plank(12, [(3, (5, 2)), (6, (9, 1)), (9, (1, 1))])
        loadings = [[((3, 1), (3, 1))], [((5, 1), (6, 1))]]
        self.assertEqual(fair(plank, loadings, (1,)), [(1, (4, 1), 1)])
        self.assertEqual(steady(plank, loadings, (1,)), ([(1, (5, 1), 1)], (1, 2)))

    def test_fair_is_the_greatest_of_the_corners(self):
        which_ones = set()
        for plank, loadings in loadings_of(67):
            for lot in lots_within(everything(plank))[1:]:
                told = fair(plank, loadings, lot)
                self.assertEqual((type(told), tuple(prop for prop, _, _ in told)), (list, lot))
                corners = [dict(corner(plank, weights, lot)[0]) for weights in loadings]
                for prop, strength, which in told:
                    numbers = [Fraction(*numbers[prop]) for numbers in corners]
                    self.assertEqual((Fraction(*strength), which), (max(numbers), numbers.index(max(numbers))))
                    which_ones.add(which)
        self.assertTrue({0, 1, 2} <= which_ones, which_ones)

    def test_steady_by_putting_them_on_again_and_again(self):
        above = 0
        for plank, loadings in loadings_of(68):
            for lot in lots_within(everything(plank))[1:]:
                numbers, left = steady(plank, loadings, lot)
                self.assertEqual((type(numbers), tuple(prop for prop, _, _ in numbers)), (list, lot))
                least = {prop: Fraction(*strength) for prop, strength, _ in numbers}
                fair_ones = fair(plank, loadings, lot)
                above += any(least[prop] > Fraction(*strength) for prop, strength, _ in fair_ones)
                self.assertTrue(all(least[prop] >= Fraction(*strength) for prop, strength, _ in fair_ones))
                for more, order in product((0, 1), (loadings, loadings[::-1])):
                    strong = stronger(plank, {prop: strength + more for prop, strength in least.items()})
                    stood = everything(plank)
                    for _ in range(plank.count() + 1):
                        for weights in order:
                            stood = standing(strong, weights, lot=stood)
                    self.assertEqual(stood, left)
                on = [laid_on(plank, weights, left) for weights in loadings]
                for prop, strength, which in numbers:
                    laid = [one[prop] for one in on]
                    self.assertEqual((Fraction(*strength), which), (max(laid), laid.index(max(laid))))
        self.assertTrue(above)

    def test_with_less_at_one_prop_it_goes(self):
        for plank, loadings in loadings_of(69, 20):
            for lot in lots_within(everything(plank))[1:]:
                for prop, strength, _ in steady(plank, loadings, lot)[0]:
                    if strength[0]:
                        strengths = {other: Fraction(10 ** 9) for other in lot}
                        strengths[prop] = max(Fraction(*strength) - TINY, Fraction(*strength) / 2)
                        stood = everything(plank)
                        for _ in range(plank.count() + 1):
                            for weights in loadings:
                                stood = standing(stronger(plank, strengths), weights, lot=stood)
                        self.assertNotIn(prop, stood)

    def test_great_ones(self):
        plank, weights = great_case((1, 3))
        told = fair(plank, [weights] * 8, everything(plank))
        self.assertEqual([which for _, _, which in told], [0] * 12)
        self.assertEqual(steady(plank, [weights] * 8, everything(plank)), (told, everything(plank)))


if __name__ == "__main__":
    unittest.main()
