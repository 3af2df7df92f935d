"""Loadings gathered on the rests, alike ones, and what a lot that is seen tells of a weight [50, 51, 52, 53, 54]."""

import random
import unittest
from fractions import Fraction

import plainly
from cases import cases, great_case, tight_cases
from odd import no_fractions_from_nought, odd_things
from plainly import everything, lots_within, pair, told
from propfall.errors import NoLot, NoPlace, NoStrengths, NoWeights
from propfall.falls import standing
from propfall.further import further
from propfall.likeness import gathered, is_parting, left_by, likened, likeness
from propfall.loads import bend_at, borne
from propfall.planks import Plank

PLANK = Plank(10, [(2, (1, 1)), (5, (2, 1)), (8, (1, 1))])
WEIGHTS = [((3, 1), (2, 1)), ((6, 1), (3, 1))]
TINY = Fraction(1, 10 ** 12)


def some_cases(seed, many=40, most_props=4):
    return cases(many, most_props, seed) + tight_cases(many, most_props, seed)


def pairs_of_loadings(seed):
    """Tell tuples (plank, one, other) of loadings that are alike, nearly, or not at all."""
    found = []
    for plank, weights in some_cases(seed):
        others = [gathered(plank, weights), weights[::-1], weights[1:], weights + weights[:1],
                  weights + [((0, 1), (5, 1)), ((plank.length(), 1), (1, 3))], [],
                  gathered(plank, weights) + [((1, 2), (1, 10 ** 9))]]
        found += [(plank, weights, other) for other in others] + [(plank, other, weights) for other in others]
    return found


def on_props(plank, weights):
    laid = plainly.laid(plank, weights, plainly.rests_of(plank, everything(plank)))
    return [laid[prop] for prop in everything(plank)]


class Gathered(unittest.TestCase):
    def test_a_plank(self):
        self.assertEqual(gathered(PLANK, WEIGHTS), [((2, 1), (4, 3)), ((5, 1), (8, 3)), ((8, 1), (1, 1))])
        self.assertEqual(gathered(PLANK, [((1, 1), (1, 1)), ((0, 1), (1, 2)), ((10, 1), (3, 1))]),
                         [((0, 1), (1, 1)), ((2, 1), (1, 2)), ((10, 1), (3, 1))])
        self.assertEqual(gathered(PLANK, []), [])
        self.assertEqual(gathered(Plank(10, []), WEIGHTS), [((0, 1), (13, 5)), ((10, 1), (12, 5))])

    def test_by_places_each_once_and_none_of_nought(self):
        for plank, weights in some_cases(111):
            found = gathered(plank, weights)
            self.assertIs(type(found), list)
            rests = plainly.rests_of(plank, everything(plank))
            laid = plainly.laid(plank, weights, rests)
            self.assertEqual(found, [((plank.place_of(rest), 1), pair(laid[rest])) for rest in rests if laid[rest]])

    def test_whatever_lot_stands_just_as_much_lies_on_each_rest(self):
        for plank, weights in some_cases(112):
            found = gathered(plank, weights)
            for lot in lots_within(everything(plank)):
                self.assertEqual(borne(plank, found, lot=lot), borne(plank, weights, lot=lot))
                self.assertEqual(standing(plank, found, lot=lot), standing(plank, weights, lot=lot))
                for place, _ in weights:
                    bends = [Fraction(*bend_at(plank, some, place, lot=lot)) for some in (found, weights)]
                    self.assertLessEqual(*bends)

    def test_great_ones(self):
        plank, weights = great_case()
        found = gathered(plank, weights)
        self.assertEqual(borne(plank, found), borne(plank, weights))
        self.assertEqual(gathered(plank, found), found)


class Likeness(unittest.TestCase):
    def test_a_plank(self):
        self.assertEqual(likeness(PLANK, WEIGHTS, WEIGHTS[:1]), ("parted", 1, [(7, 1), (2, 3), (7, 1)]))
        self.assertEqual(likeness(PLANK, WEIGHTS[:1], WEIGHTS), ("parted", 1, [(7, 1), (2, 3), (7, 1)]))
        self.assertEqual(likeness(PLANK, WEIGHTS, gathered(PLANK, WEIGHTS)), ("alike",))
        self.assertEqual(likeness(Plank(10, []), WEIGHTS, []), ("alike",))
        self.assertEqual(likeness(PLANK, [], []), ("alike",))

    def test_on_the_walls_may_lie_what_will(self):
        self.assertEqual(likeness(PLANK, WEIGHTS, WEIGHTS + [((0, 1), (9, 1)), ((10, 1), (1, 7))]), ("alike",))
        self.assertEqual(likeness(PLANK, [((0, 1), (9, 1))], [((10, 1), (9, 1))]), ("alike",))

    def test_alike_just_where_on_each_prop_the_same_lies(self):
        kinds = set()
        for plank, one, other in pairs_of_loadings(113):
            found = likeness(plank, one, other)
            here, there = on_props(plank, one), on_props(plank, other)
            unlike = [prop for prop in everything(plank) if here[prop] != there[prop]]
            if not unlike:
                self.assertEqual(found, ("alike",))
                for lot in lots_within(everything(plank)):
                    self.assertEqual(standing(plank, one, lot=lot), standing(plank, other, lot=lot))
                kinds.add("alike")
                continue
            total = sum((weight for _, weight in told(one + other)), Fraction(0))
            strengths = [total] * plank.count()
            strengths[unlike[0]] = min(here[unlike[0]], there[unlike[0]])
            self.assertEqual(found, ("parted", unlike[0], [pair(strength) for strength in strengths]))
            self.assertIs(type(found[2]), list)
            strong = plank.strengthened(found[2])
            lots = [plainly.standing(strong, some, everything(plank)) for some in (one, other)]
            self.assertIn(everything(plank), lots)
            self.assertTrue(any(unlike[0] not in lot for lot in lots))
            self.assertIs(is_parting(plank, one, other, found[2]), True)
            kinds.add(unlike[0])
        self.assertTrue({"alike", 0, 1, 2} <= kinds, kinds)

    def test_great_ones(self):
        plank, weights = great_case()
        self.assertEqual(likeness(plank, weights, weights[::-1]), ("alike",))
        parted = likeness(plank, weights, weights[1:])
        self.assertEqual(parted[0], "parted")
        self.assertIs(is_parting(plank, weights, weights[1:], parted[2]), True)


class IsParting(unittest.TestCase):
    def test_by_standing_with_these_strengths(self):
        chance, seen = random.Random(114), set()
        for plank, one, other in pairs_of_loadings(114):
            strengths = [pair(Fraction(chance.randint(0, 12), chance.choice((1, 2, 3)))) for _ in everything(plank)]
            strong = plank.strengthened(strengths)
            lots = [plainly.standing(strong, some, everything(plank)) for some in (one, other)]
            right = is_parting(plank, one, other, strengths)
            self.assertIs(right, lots[0] != lots[1])
            seen.add((right, likeness(plank, one, other)[0]))
        self.assertEqual(seen, {(True, "parted"), (False, "parted"), (False, "alike")})

    def test_no_strengths_behind_no_weights(self):
        for thing in odd_things() + [[], [(1, 1)] * 2, [(1, 1)] * 4, ((1, 1),) * 3, {0: (1, 1)}, "123"]:
            self.assertRaises(NoStrengths, is_parting, PLANK, WEIGHTS, [], thing)
            for one, other in ((None, WEIGHTS), (WEIGHTS, None)):
                with self.assertRaises(NoWeights) as caught:
                    is_parting(PLANK, one, other, thing)
                self.assertEqual(caught.exception.at, -1)
        for thing in no_fractions_from_nought():
            self.assertRaises(NoStrengths, is_parting, PLANK, WEIGHTS, [], [(1, 1), (1, 1), thing])


class TwoLoadings(unittest.TestCase):
    def test_no_weights_of_the_one_ahead_of_the_other(self):
        wrong = [(None, -1), ([None], 0), (WEIGHTS + [((11, 1), (1, 1))], 2), ((), -1), (WEIGHTS[:1] + [((1, 1), (0, 1))], 1)]
        for thing, at in wrong:
            for behind in (None, WEIGHTS, [3]):
                for asked in (lambda one, other: likeness(PLANK, one, other),
                              lambda one, other: is_parting(PLANK, one, other, [(1, 1)] * 3)):
                    with self.assertRaises(NoWeights) as caught:
                        asked(thing, behind)
                    self.assertEqual(caught.exception.at, at)
                    with self.assertRaises(NoWeights) as caught:
                        asked(WEIGHTS, thing)
                    self.assertEqual(caught.exception.at, at)


class Likened(unittest.TestCase):
    def test_a_plank(self):
        self.assertEqual(likened(PLANK, [WEIGHTS, [], gathered(PLANK, WEIGHTS), WEIGHTS[:1], [((0, 1), (1, 1))]]),
                         [[0, 2], [1, 4], [3]])
        self.assertEqual(likened(PLANK, []), [])
        self.assertEqual(likened(Plank(10, []), [WEIGHTS, [], WEIGHTS]), [[0, 1, 2]])

    def test_two_by_two(self):
        for plank, weights in some_cases(115, 20):
            lists = [weights, [], weights[1:], gathered(plank, weights), weights[::-1], weights[:1],
                     weights + [((0, 1), (1, 1))], gathered(plank, weights[1:])] * 2 + [weights] * 4
            found = likened(plank, lists)
            self.assertEqual(sorted(number for group in found for number in group), [*range(20)])
            self.assertEqual(found, sorted(sorted(group) for group in found))
            group_of = {number: at for at, group in enumerate(found) for number in group}
            for one in range(20):
                for other in range(one):
                    alike = likeness(plank, lists[one], lists[other]) == ("alike",)
                    self.assertEqual(alike, group_of[one] == group_of[other])

    def test_no_weights(self):
        for thing in odd_things() + [0, (WEIGHTS,), {0: WEIGHTS}]:
            self.refused(thing, -1)
            if type(thing) is not list:
                self.refused([WEIGHTS, thing, [None]], -1)
        for thing, at in (([None], 0), (WEIGHTS + [3], 2), ([((1, 1), (0, 1))], 0), (tuple(WEIGHTS), -1)):
            self.refused([WEIGHTS, [], thing, None], at)
            self.refused([thing, [WEIGHTS] * 3], at)

    def refused(self, lists, at):
        with self.assertRaises(NoWeights) as caught:
            likened(PLANK, lists)
        self.assertEqual(caught.exception.at, at)


class LeftBy(unittest.TestCase):
    def test_a_plank(self):
        self.assertEqual(left_by(PLANK, [], (5, 1), (0, 1, 2)), (None, (2, 1)))
        self.assertEqual(left_by(PLANK, [], (5, 1), ()), ((2, 1), None))
        self.assertIsNone(left_by(PLANK, [], (5, 1), (0, 2)))
        self.assertEqual(left_by(PLANK, [], (0, 1), (0, 1, 2)), (None, None))
        self.assertEqual(left_by(PLANK, [((5, 1), (2, 1))], (5, 1), (0, 1, 2)), (None, (0, 1)))
        self.assertIsNone(left_by(PLANK, [((5, 1), (3, 1))], (5, 1), (0, 1, 2)))

    def test_against_standing_with_such_weights(self):
        seen = set()
        for plank, weights in some_cases(116):
            for place in sorted({(plank.place_of(rest), 1) for rest in range(-1, plank.count() + 1)} | {(3, 2), (4, 1)}):
                told_lots = [lot for _, lot, _ in further(plank, weights, place)]
                for lot in lots_within(everything(plank)):
                    found = left_by(plank, weights, place, lot)
                    self.assertEqual(found is not None, lot in told_lots)
                    if found is None:
                        continue
                    low, high = found
                    seen.add((low is None, high is None))
                    inside = [Fraction(0)] if low is None else [Fraction(*low) + TINY]
                    inside.append(inside[0] + 10 ** 9 if high is None else Fraction(*high))
                    inside.append((inside[0] + inside[1]) / 2)
                    outside = [] if low is None else [Fraction(*low), max(Fraction(*low) - TINY, 0), Fraction(0)]
                    outside += [] if high is None else [Fraction(*high) + TINY, Fraction(*high) + 10 ** 9]
                    for weight in inside + outside:
                        left = standing(plank, weights + ([(place, pair(weight))] if weight else []))
                        self.assertEqual(left == lot, weight in inside)
        self.assertEqual(len(seen), 4)

    def test_no_place_behind_no_lot_behind_no_weights(self):
        for place in no_fractions_from_nought() + [(11, 1), (101, 10), 5]:
            with self.assertRaises(NoPlace) as caught:
                left_by(PLANK, WEIGHTS, place, ())
            self.assertIs(caught.exception.place, place)
            for lot in [thing for thing in odd_things() if type(thing) is not tuple] + [
                    0, [0], (1, 0), (3,), (0, 0), (-1,), (True,), (0, 1, 2, 3)]:
                self.assertRaises(NoLot, left_by, PLANK, WEIGHTS, place, lot)
            self.assertRaises(NoWeights, left_by, PLANK, [None], place, None)


if __name__ == "__main__":
    unittest.main()
