"""What may be lifted out: rows, needs, classes, holders and fellers [21, 22, 23, 24, 25]."""

import unittest

import plainly
from cases import cases, great_case, tight_cases
from odd import Agreeable, Quarrelsome, odd_things
from plainly import everything, is_row, lots_within
from propfall.errors import NoLot
from propfall.lifts import (classes, fellers, holders, is_feller, is_holder, lifted, needs, shows_left)
from propfall.loads import holds
from propfall.planks import Plank

# 3 falls at first; then 2 bears it with either 0 or 1, and neither of these without 2.
PLANK = Plank(10, [(2, (5, 2)), (4, (3, 1)), (6, (3, 1)), (8, (0, 1))], bend=(5, 1))
WEIGHTS = [((4, 1), (2, 1)), ((5, 1), (2, 1)), ((8, 1), (1, 1))]
NO_LOTS = [thing for thing in odd_things() if type(thing) is not tuple] + [
    0, [], [0], [0, 1], {0}, (1, 0), (0, 0), (0, 1, 1), (4,), (-1,), (0, 4), (True,), (False, 1), (0.0,), ("0",),
    (None,), ((0,),), (Agreeable(),), (0, Quarrelsome()), (10 ** 50,), "01"]


def small_cases(many, seed, most_props=4):
    """Tell tuples (plank, weights, lot) of planks on which some stand."""
    return [(plank, weights, plainly.standing(plank, weights, everything(plank)))
            for plank, weights in cases(many // 3, most_props, seed) + tight_cases(many, most_props, seed)]


def but(lot, some):
    return tuple(prop for prop in lot if prop not in some)


def rest_of(plank, weights, stood, taken):
    """Tell what is left where a lot is lifted out, by going through all lots."""
    return plainly.standing(plank, weights, but(stood, taken))


def all_hold(plank, weights, lot):
    """Tell whether all boards hold, by the bends at all weights."""
    return all(plainly.bend(plank, weights, lot, place) <= plainly.Fraction(*plank.bend()) for place, _ in weights)


def keeps(plank, weights, prop, lot):
    return all_hold(plank, weights, lot) if prop is None else prop in lot


def least(lots):
    """Tell the sorted ones of some lots within which no lesser one of them is."""
    return sorted(lot for lot in lots if not any(set(other) < set(lot) for other in lots))


def plain_holders(plank, weights, prop, stood):
    return least([lot for lot in lots_within(everything(plank))
                  if not plainly.overlaid(plank, weights, lot) and keeps(plank, weights, prop, lot)])


def plain_fellers(plank, weights, prop, stood):
    return least([lot for lot in lots_within(but(stood, (prop,)))
                  if not keeps(plank, weights, prop, rest_of(plank, weights, stood, lot))])


class Lifted(unittest.TestCase):
    def test_of_none_one_several_and_all(self):
        for taken, lot, rows in (((), (0, 1, 2), [[]]), ((0,), (1, 2), [[]]), ((1,), (0, 2), [[]]), ((2,), (), [[1, 0]]),
                                 ((0, 1), (), [[2]]), ((1, 2), (), [[0]]), ((0, 1, 2), (), [[]])):
            left, row = lifted(PLANK, WEIGHTS, taken=taken)
            self.assertEqual(left, lot)
            self.assertIn(row, rows)
        self.assertEqual(lifted(Plank(4, []), WEIGHTS[:1], taken=()), ((), []))

    def test_what_stands_no_more_gives_way_no_more(self):
        for plank, weights, stood in small_cases(60, 31):
            for taken in lots_within(stood):
                told = lifted(plank, weights, taken=taken)
                self.assertIs(type(told), tuple)
                lot, row = told
                self.assertIs(type(row), list)
                self.assertEqual(lot, rest_of(plank, weights, stood, taken))
                self.assertTrue(is_row(plank, weights, but(stood, taken), row))
                self.assertEqual(sorted(row), sorted(set(stood) - set(taken) - set(lot)))

    def test_one_behind_the_other_or_at_once(self):
        for plank, weights, stood in small_cases(40, 32):
            for taken in lots_within(stood):
                for order in (taken, taken[::-1]):
                    left = stood
                    for prop in order:
                        left = plainly.standing(plank, weights, but(left, (prop,)))
                    self.assertEqual(left, lifted(plank, weights, taken=taken)[0])

    def test_no_lot_of_props_that_stand(self):
        for taken in NO_LOTS + [None, (3,), (0, 3), (0, 1, 2, 3)]:
            self.assertRaises(NoLot, lifted, PLANK, WEIGHTS, taken=taken)
        self.assertEqual(lifted(PLANK, WEIGHTS[:2], taken=(3,))[0], (0, 1, 2))

    def test_great_ones(self):
        plank, weights = great_case((99, 1))
        self.assertEqual(lifted(plank, weights, taken=(3, 7)), ((0, 1, 2, 4, 5, 6, 8, 9, 10, 11), []))


class NeedsAndClasses(unittest.TestCase):
    def test_a_plank(self):
        self.assertEqual(needs(PLANK, WEIGHTS), [(0, 2), (1, 2)])
        self.assertEqual(classes(PLANK, WEIGHTS), [((0,), (0,)), ((1,), (1,)), ((2,), (0, 1, 2))])
        both = Plank(9, [(3, (1, 1)), (6, (1, 1))])
        self.assertEqual(needs(both, [((3, 1), (1, 1)), ((6, 1), (1, 1))]), [(0, 1), (1, 0)])
        self.assertEqual(classes(both, [((3, 1), (1, 1)), ((6, 1), (1, 1))]), [((0, 1), (0, 1))])
        self.assertEqual((needs(both, []), classes(both, [])), ([], [((0,), (0,)), ((1,), (1,))]))
        self.assertEqual((needs(Plank(9, []), []), classes(Plank(9, []), [])), ([], []))

    def test_by_their_own_words(self):
        sizes = set()
        for plank, weights, stood in small_cases(150, 33, most_props=5):
            gone = {prop: but(stood, rest_of(plank, weights, stood, (prop,))) for prop in stood}
            needed = [(prop, other) for prop in stood for other in stood if prop != other and prop in gone[other]]
            self.assertEqual(needs(plank, weights), needed)
            told = classes(plank, weights)
            self.assertEqual(told, sorted(told))
            self.assertEqual(sorted(prop for some, _ in told for prop in some), list(stood))
            for some, going in told:
                sizes.add((len(some), len(going)))
                for prop in some:
                    self.assertEqual(going, gone[prop])
                    for other in stood:
                        mutual = other == prop or (prop, other) in needed and (other, prop) in needed
                        self.assertEqual(other in some, mutual)
        self.assertTrue({(1, 1), (1, 2), (2, 2), (2, 3), (3, 3)} <= sizes, sizes)


class HoldersAndFellers(unittest.TestCase):
    def test_a_plank(self):
        for prop, hold, fell in ((None, [(0, 2), (1, 2)], [(0, 1), (2,)]), (0, [(0, 2)], [(2,)]), (1, [(1, 2)], [(2,)]),
                                 (2, [(0, 2), (1, 2)], [(0, 1)])):
            self.assertEqual(holders(PLANK, WEIGHTS, prop=prop), hold)
            self.assertEqual(fellers(PLANK, WEIGHTS, prop=prop), fell)

    def test_a_prop_that_nothing_fells(self):
        self.assertEqual(holders(PLANK, [], prop=3), [(3,)])
        self.assertEqual(fellers(PLANK, [], prop=3), [])

    def test_against_all_lots_one_by_one(self):
        many = set()
        for plank, weights, stood in small_cases(70, 34) + small_cases(25, 35, most_props=5):
            for prop in (None, *stood):
                hold, fell = holders(plank, weights, prop=prop), fellers(plank, weights, prop=prop)
                self.assertEqual(hold, plain_holders(plank, weights, prop, stood))
                self.assertEqual(fell, plain_fellers(plank, weights, prop, stood))
                self.assertTrue(all(set(one) & set(other) for one in hold for other in fell))
                many.add((prop is None, min(len(hold), 2), min(len(fell), 2)))
                if prop is None:
                    self.assertEqual((holders(plank, weights), fellers(plank, weights)), (hold, fell))
        self.assertTrue({(True, 0, 1), (True, 1, 0), (True, 1, 1), (True, 1, 2), (True, 2, 2), (False, 1, 0),
                         (False, 1, 1), (False, 1, 2), (False, 2, 1)} <= many, many)

    def test_each_lot_fells_or_leaves(self):
        for plank, weights, stood in small_cases(40, 36):
            for prop in (None, *stood):
                hold, fell = holders(plank, weights, prop=prop), fellers(plank, weights, prop=prop)
                for taken in lots_within(but(stood, (prop,))):
                    kept = keeps(plank, weights, prop, lifted(plank, weights, taken=taken)[0])
                    self.assertEqual(kept, any(not set(lot) & set(taken) for lot in hold))
                    self.assertEqual(not kept, any(set(lot) <= set(taken) for lot in fell))

    def test_a_plank_that_does_not_hold_at_all(self):
        plank = Plank(10, [(5, (9, 1))], bend=(1, 1))
        self.assertEqual(holders(plank, [((2, 1), (1, 1))]), [])
        self.assertEqual(fellers(plank, [((2, 1), (1, 1))]), [()])

    def test_a_plank_that_holds_without_props(self):
        plank = Plank(10, [(5, (9, 1))], bend=(1, 1))
        for weights in ([], [((5, 1), (2, 5))]):
            self.assertEqual(holders(plank, weights), [()])
            self.assertEqual(fellers(plank, weights), [])

    def test_bends_told_none_just_reached_and_just_passed(self):
        weights = [((5, 1), (4, 1))]
        props = [(3, (9, 1)), (7, (9, 1))]
        # Between walls the weight bends by 10, between a wall and a prop by 40/7, between both props by 4.
        for bend, hold, fell in ((None, [()], []), ((10, 1), [()], []), ((999, 100), [(0,), (1,)], [(0, 1)]),
                                 ((40, 7), [(0,), (1,)], [(0, 1)]), ((39, 7), [(0, 1)], [(0,), (1,)]),
                                 ((4, 1), [(0, 1)], [(0,), (1,)]), ((399, 100), [], [()])):
            plank = Plank(10, props, bend=bend)
            self.assertEqual((holders(plank, weights), fellers(plank, weights)), (hold, fell))

    def test_great_ones(self):
        plank = Plank(13, [(place, (2, 1)) for place in range(1, 13)], bend=(3, 1))
        weights = [((2 * place + 1, 2), (10 ** 39 + 1, 10 ** 39)) for place in range(13)]
        for prop in (None, 0, 6):
            hold, fell = holders(plank, weights, prop=prop), fellers(plank, weights, prop=prop)
            self.assertTrue(len(hold) > 3 and len(fell) > 3)
            for some in hold:
                self.assertIs(is_holder(plank, weights, some, prop=prop), True)
            for some in fell:
                self.assertIs(is_feller(plank, weights, some, prop=prop), True)
                self.assertTrue(all(set(some) & set(other) for other in hold))
        self.assertTrue(all(holds(plank, weights, lot=lot) for lot in holders(plank, weights)))


class Judged(unittest.TestCase):
    def test_of_anything(self):
        for thing in NO_LOTS:
            for prop in (None, 0, 1):
                self.assertIs(is_holder(PLANK, WEIGHTS, thing, prop=prop), False)
                self.assertIs(is_feller(PLANK, WEIGHTS, thing, prop=prop), False)
                self.assertIs(shows_left(PLANK, WEIGHTS, thing, taken=(), prop=prop), False)
                self.assertIs(shows_left(PLANK, WEIGHTS, thing, taken=(0,), prop=1), False)

    def test_all_lots_of_small_planks(self):
        for plank, weights, stood in small_cases(50, 37):
            for prop in (None, *stood):
                hold, fell = holders(plank, weights, prop=prop), fellers(plank, weights, prop=prop)
                for lot in lots_within(everything(plank)):
                    self.assertIs(is_holder(plank, weights, lot, prop=prop), lot in hold)
                    self.assertIs(is_feller(plank, weights, lot, prop=prop), lot in fell)
                    if len(lot) > 1:
                        for wrong in (lot[::-1], list(lot), lot + lot[-1:], lot[:1] + lot):
                            self.assertIs(is_holder(plank, weights, wrong, prop=prop), False)
                            self.assertIs(is_feller(plank, weights, wrong, prop=prop), False)

    def test_what_shows_that_it_is_left(self):
        seen = set()
        for plank, weights, stood in small_cases(30, 38):
            for prop in (None, *stood):
                for taken in lots_within(stood):
                    shown = False
                    for lot in lots_within(everything(plank)):
                        right = (not plainly.overlaid(plank, weights, lot) and keeps(plank, weights, prop, lot)
                                 and not set(lot) & set(taken))
                        self.assertIs(shows_left(plank, weights, lot, taken=taken, prop=prop), right)
                        shown = shown or right
                    self.assertEqual(shown, keeps(plank, weights, prop, lifted(plank, weights, taken=taken)[0]))
                    seen.add((prop is None, shown))
        self.assertEqual(len(seen), 4)

    def test_lots_that_are_nearly_right(self):
        self.assertIs(shows_left(PLANK, WEIGHTS, (1, 2), taken=(0,), prop=2), True)
        for wrong in ((2,), (0, 1, 2), (1, 2, 3), (2, 1), (1, 1, 2), [1, 2], (1,), (1, 2, 2), (1, 2, None), (), (0, 2)):
            self.assertIs(shows_left(PLANK, WEIGHTS, wrong, taken=(0,), prop=2), False)


if __name__ == "__main__":
    unittest.main()
