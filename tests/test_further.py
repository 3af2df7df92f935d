"""A further weight at one place, and where one may be put [26, 27, 28, 29]."""

import unittest
from fractions import Fraction
from itertools import permutations

import plainly
from cases import cases, great_case, tight_cases
from odd import Agreeable, Quarrelsome, odd_things
from plainly import everything, is_row, pair
from propfall.errors import NoPlace, NoProp, NoWeight
from propfall.falls import standing
from propfall.further import felled, further, is_further, most_borne, safe, weakest
from propfall.planks import Plank

# Of weights of their own nothing lies on 0, 1 on 1; 2 is just at its strength.
PLANK = Plank(10, [(2, (1, 1)), (5, (3, 1)), (8, (2, 1))])
WEIGHTS = [((5, 1), (1, 1)), ((8, 1), (2, 1))]
TINY = Fraction(1, 10 ** 12)


def some_cases(seed, many=40, most_props=4):
    return cases(many, most_props, seed) + tight_cases(many, most_props, seed)


def left_with(plank, weights, place, weight):
    """Tell what is left with a further weight, perhaps of nought, by going through all lots."""
    further_one = [(place, pair(weight))] if weight else []
    return plainly.standing(plank, weights + further_one, everything(plank))


def places_of(plank, weights):
    """Tell places to ask at: of rests, of weights, and between."""
    rests = [Fraction(plank.place_of(rest)) for rest in plainly.rests_of(plank, everything(plank))]
    found = set(rests) | {Fraction(*place) for place, _ in weights}
    found |= {(one + other) / 2 for one, other in zip(rests, rests[1:])} | {rests[-1] / 7}
    return [pair(place) for place in sorted(found)]


def looked_at(plank, weights, weight, place):
    """Tell whether a further weight at a place fells nothing of what stands."""
    return standing(plank, weights + [(pair(place), pair(weight))]) == standing(plank, weights)


class Further(unittest.TestCase):
    def test_a_plank(self):
        told = [([], (0, 1, 2), (1, 1)), ([0], (1, 2), (5, 1)), ([1, 2], (), None)]
        self.assertEqual(further(PLANK, WEIGHTS, (2, 1)), told)
        self.assertEqual(further(PLANK, WEIGHTS, (2, 1)), told)

    def test_a_most_of_nought_and_a_prop_that_is_just_at_its_strength(self):
        told = further(PLANK, WEIGHTS, (8, 1))
        self.assertEqual(told[0], ([], (0, 1, 2), (0, 1)))
        self.assertNotIn(2, told[1][1])
        # Without a share it stands: a weight at 5 lies on 1 alone, one at 4 on 0 and 1.
        self.assertEqual(further(PLANK, WEIGHTS, (5, 1))[0], ([], (0, 1, 2), (2, 1)))
        self.assertEqual(further(PLANK, WEIGHTS, (4, 1))[0], ([], (0, 1, 2), (3, 1)))

    def test_a_place_at_a_wall_changes_nothing(self):
        for plank, weights in some_cases(41, 15):
            row = further(plank, weights, (0, 1))[0][0]
            for place in (0, plank.length()):
                self.assertEqual(further(plank, weights, (place, 1)), [(row, standing(plank, weights), None)])
            self.assertTrue(is_row(plank, weights, everything(plank), row))

    def test_without_props(self):
        self.assertEqual(further(Plank(10, []), WEIGHTS, (3, 1)), [([], (), None)])

    def test_against_standing_with_the_further_weight(self):
        lengths = set()
        for plank, weights in some_cases(42):
            for place in places_of(plank, weights):
                told = further(plank, weights, place)
                self.assertIs(type(told), list)
                lengths.add(len(told))
                self.assertEqual([most is None for _, _, most in told], [False] * (len(told) - 1) + [True])
                ahead = Fraction(0)
                for _, lot, most in told:
                    self.assertEqual(lot, left_with(plank, weights, place, ahead))
                    if most is None:
                        self.assertEqual(lot, left_with(plank, weights, place, ahead + 10 ** 9))
                        break
                    most = Fraction(*most)
                    for weight in (most, (ahead + most) / 2, max(most - TINY, ahead)):
                        self.assertEqual(lot, left_with(plank, weights, place, weight))
                    self.assertNotEqual(lot, left_with(plank, weights, place, most + TINY))
                    ahead = most + TINY
                if 0 < Fraction(*place) < plank.length():
                    self.assertEqual(told[-1][1], ())
        self.assertTrue({1, 2, 3, 4} <= lengths, lengths)

    def test_rows_of_those_that_could_go_the_first_one_first(self):
        for plank, weights in some_cases(43):
            for place in places_of(plank, weights):
                lot, on = everything(plank), weights
                for row, left, most in further(plank, weights, place):
                    self.assertIs(type(row), list)
                    for prop in row:
                        self.assertEqual(prop, min(plainly.overlaid(plank, on, lot)))
                        lot = plainly.without(lot, prop)
                    self.assertEqual((lot, plainly.overlaid(plank, on, lot)), (left, []))
                    if most is not None:
                        on = weights + [(place, pair(Fraction(*most) + TINY))]

    def test_great_ones(self):
        plank, weights = great_case((9, 10 ** 39 + 1))
        self.assertEqual(further(plank, weights, (10 ** 39 + 1, 10 ** 39))[-1][1:], ((), None))
        plank = plank.strengthened([(9, 1)] * 12)
        told = further(plank, weights, (10 ** 39 + 1, 10 ** 39))
        self.assertEqual((told[0][:2], told[-1][1:]), (([], everything(plank)), ((), None)))
        self.assertTrue(len(told) > 2)
        self.assertIs(is_further(plank, weights, (10 ** 39 + 1, 10 ** 39), told), True)

    def test_no_place(self):
        for thing in odd_things() + [3, (-1, 1), (11, 1), (2, 2), (101, 10)]:
            for asked, behind in ((further, []), (is_further, [[]]), (felled, [0])):
                with self.assertRaises(NoPlace) as caught:
                    asked(PLANK, WEIGHTS, thing, *behind)
                self.assertIs(caught.exception.place, thing)


class IsFurther(unittest.TestCase):
    def test_rows_in_all_orders(self):
        many = set()
        for plank, weights in some_cases(44, 20):
            for place in places_of(plank, weights):
                told = further(plank, weights, place)
                self.assertIs(is_further(plank, weights, place, told), True)
                lot, on = everything(plank), weights
                for at, (row, left, most) in enumerate(told):
                    for other in map(list, permutations(row)):
                        right = is_row(plank, on, lot, other)
                        many.add((len(row), right))
                        changed = told[:at] + [(other, left, most)] + told[at + 1:]
                        self.assertIs(is_further(plank, weights, place, changed), right)
                    if most is not None:
                        lot, on = left, weights + [(place, pair(Fraction(*most) + TINY))]
        self.assertTrue({(2, True), (2, False), (3, True), (3, False)} <= many, many)

    def test_wrong_ones(self):
        place = (2, 1)
        told = further(PLANK, WEIGHTS, place)
        self.assertEqual(len(told), 3)
        wrong = [[], told[:-1], told[1:], told[:1], told + told[-1:], told[:1] + told, told[::-1], tuple(told),
                 told[:1] + told[2:], [told], {0: told}]
        for at, (row, lot, most) in enumerate(told):
            others = [(row, lot), (row, lot, most, None), [row, lot, most], (lot, row, most), (row, lot, (7, 3)),
                      (row, lot, None if most else (99, 1)), (row, lot, (0, 1)), (row, list(lot), most),
                      (tuple(row), lot, most), (row + [0], lot, most), ([0] + row, lot, most), (row + [9], lot, most),
                      (row, lot + (3,), most), (row, lot[1:] if lot else (0,), most), (row, lot[::-1] * 2 + (0,), most),
                      (row, None, most), (None, lot, most), (row, lot, True), (row, lot, 0), (row, lot, Agreeable()),
                      (row, Agreeable(), most), (Agreeable(), lot, most), (row, lot, Quarrelsome()),
                      (Quarrelsome(), lot, most), (row, Quarrelsome(), most), Agreeable(), Quarrelsome(), None,
                      (row, lot, (Agreeable(), Agreeable())), (row, (Agreeable(),) * len(lot) or (Agreeable(),), most),
                      ([Agreeable()] * len(row) or [Agreeable()], lot, most)]
            if most is not None:
                others += [(row, lot, (2 * most[0], 2 * most[1])), (row, lot, pair(Fraction(*most) + TINY)),
                           (row, lot, list(most)), (row, lot, (-most[0] - 1, most[1])), (row, lot, float(most[0]))]
            wrong += [told[:at] + [other] + told[at + 1:] for other in others]
        for thing in wrong + odd_things():
            self.assertIs(is_further(PLANK, WEIGHTS, place, thing), False, thing)
        self.assertIs(is_further(PLANK, WEIGHTS, place, told), True)
        self.assertIs(is_further(PLANK, WEIGHTS, (2000001, 1000000), told), False)
        self.assertIs(is_further(PLANK, WEIGHTS[1:], place, told), False)

    def test_truths_for_numbers(self):
        plank = Plank(4, [(2, (1, 1))])
        right = [([], (0,), (1, 1)), ([0], (), None)]
        self.assertIs(is_further(plank, [], (2, 1), right), True)
        for thing in ([([], (False,), (1, 1)), right[1]], [right[0], ([False], (), None)],
                      [([], (0,), (True, 1)), right[1]], [([], (0,), (1, True)), right[1]],
                      [([], (0,), (1.0, 1)), right[1]], [([], (0,), (1, 1.0)), right[1]]):
            self.assertIs(is_further(plank, [], (2, 1), thing), False)


class Felled(unittest.TestCase):
    def test_each_prop_that_stands(self):
        for plank, weights in some_cases(45):
            stood = standing(plank, weights)
            for place in places_of(plank, weights):
                for prop in stood:
                    most = felled(plank, weights, place, prop)
                    if most is None:
                        self.assertIn(Fraction(*place), (0, plank.length()))
                        self.assertIn(prop, left_with(plank, weights, place, 10 ** 9))
                    else:
                        self.assertIn(prop, left_with(plank, weights, place, Fraction(*most)))
                        self.assertNotIn(prop, left_with(plank, weights, place, Fraction(*most) + TINY))

    def test_no_prop_that_stands(self):
        weights = WEIGHTS + [((8, 1), (1, 1))]
        for thing in odd_things() + [-1, 3, 2, (0,), [0], "0"]:
            with self.assertRaises(NoProp) as caught:
                felled(PLANK, weights, (4, 1), thing)
            self.assertIs(caught.exception.prop, thing)
        self.assertEqual(felled(PLANK, weights, (0, 1), 1), None)


class Weakest(unittest.TestCase):
    def test_the_first_of_the_least_spare(self):
        self.assertEqual(weakest(PLANK, WEIGHTS), (2, (0, 1)))
        self.assertEqual(weakest(PLANK, []), (0, (1, 1)))
        self.assertEqual(weakest(PLANK.strengthened([(3, 1), (3, 1), (2, 1)]), WEIGHTS[:1]), (1, (2, 1)))
        self.assertIsNone(weakest(PLANK.strengthened([(0, 1)] * 3), [((4, 1), (3, 1))]))
        self.assertIsNone(weakest(Plank(10, []), WEIGHTS))

    def test_by_what_lies_on_them(self):
        several = 0
        for plank, weights in some_cases(46):
            stood = plainly.standing(plank, weights, everything(plank))
            on = plainly.laid(plank, weights, plainly.rests_of(plank, stood))
            spares = [(Fraction(*plank.props()[prop][1]) - on[prop], prop) for prop in stood]
            told = weakest(plank, weights)
            self.assertEqual(told, (min(spares)[1], pair(min(spares)[0])) if spares else None)
            several += len([spare for spare, _ in spares if spare == min(spares)[0]]) > 1
            if told is not None:
                prop, spare = told[0], Fraction(*told[1])
                own = pair(Fraction(plank.place_of(prop)))
                for place in places_of(plank, weights):
                    self.assertEqual(left_with(plank, weights, place, spare), stood)
                self.assertNotIn(prop, left_with(plank, weights, own, spare + TINY))
        self.assertTrue(several)


class Safe(unittest.TestCase):
    def test_a_plank(self):
        self.assertEqual(safe(PLANK, WEIGHTS, (2, 1)), [(-1, 0, (0, 1), (1, 1)), (0, 1, (7, 2), (5, 1)),
                                                        (1, 2, (5, 1), (5, 1)), (2, 3, (10, 1), (10, 1))])
        self.assertEqual(safe(PLANK, WEIGHTS, (4, 1)), [(-1, 0, (0, 1), (1, 2)), (0, 1, None, None),
                                                        (1, 2, None, None), (2, 3, (10, 1), (10, 1))])
        self.assertEqual(safe(PLANK, WEIGHTS, (3, 1)), [(-1, 0, (0, 1), (2, 3)), (0, 1, (4, 1), (4, 1)),
                                                        (1, 2, None, None), (2, 3, (10, 1), (10, 1))])
        self.assertEqual(safe(PLANK, WEIGHTS, (5, 2))[1], (0, 1, (19, 5), (22, 5)))
        self.assertEqual(safe(Plank(10, []), WEIGHTS, (10 ** 40, 1)), [(-1, 0, (0, 1), (10, 1))])

    def test_at_the_told_places_within_and_beyond(self):
        seen = set()
        for plank, weights in some_cases(47):
            stood = standing(plank, weights)
            rests = plainly.rests_of(plank, stood)
            for weight in (Fraction(1, 3), Fraction(1), Fraction(7, 2)):
                told = safe(plank, weights, pair(weight))
                self.assertEqual([board[:2] for board in told], list(zip(rests, rests[1:])))
                for left, right, low, high in told:
                    a, b = Fraction(plank.place_of(left)), Fraction(plank.place_of(right))
                    steps = [a + (b - a) * k / 12 for k in range(13)]
                    if low is None:
                        self.assertIsNone(high)
                        seen.add("none")
                        self.assertFalse(any(looked_at(plank, weights, weight, place) for place in steps))
                        continue
                    low, high = Fraction(*low), Fraction(*high)
                    self.assertTrue(a <= low <= high <= b)
                    seen.add((low > a, high < b, low < high))
                    steps += [place for place in (low, high, (low + high) / 2, low - TINY, high + TINY) if a <= place <= b]
                    for place in steps:
                        self.assertEqual(looked_at(plank, weights, weight, place), low <= place <= high)
        self.assertEqual(len(seen), 6, seen)

    def test_no_further_weight(self):
        for thing in odd_things() + [0, 1, (0, 1), (-1, 1), (-1, 3), (2, 2), (1, 0), (1, -1), [1, 1], (True, 1), "11"]:
            self.assertRaises(NoWeight, safe, PLANK, WEIGHTS, thing)


class MostBorne(unittest.TestCase):
    def test_a_plank(self):
        self.assertEqual(most_borne(PLANK, WEIGHTS), [(0, 1, (3, 1), (4, 1)), (1, 2, (2, 1), (5, 1))])
        self.assertEqual(most_borne(PLANK.strengthened([(0, 1), (1, 1), (2, 1)]), WEIGHTS),
                         [(0, 1, (0, 1), (2, 1)), (1, 2, (0, 1), (5, 1))])
        self.assertEqual(most_borne(PLANK.strengthened([(0, 1), (0, 1), (2, 1)]), WEIGHTS), [])
        self.assertEqual(most_borne(Plank(10, []), WEIGHTS), [])

    def test_just_so_much_and_no_more(self):
        boards = 0
        for plank, weights in some_cases(48):
            stood = standing(plank, weights)
            told = most_borne(plank, weights)
            self.assertEqual([board[:2] for board in told], list(zip(stood, stood[1:])))
            for left, right, most, place in told:
                boards += 1
                a, b = Fraction(plank.place_of(left)), Fraction(plank.place_of(right))
                most, place = Fraction(*most), Fraction(*place)
                self.assertTrue(a <= place <= b)
                self.assertEqual(left_with(plank, weights, pair(place), most), stood)
                for other in [a + (b - a) * k / 6 for k in range(7)] + [place]:
                    self.assertNotEqual(left_with(plank, weights, pair(other), most + TINY), stood)
        self.assertTrue(boards > 20)


if __name__ == "__main__":
    unittest.main()
