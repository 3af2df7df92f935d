"""What is left by a further weight, wherever it lies [30]."""

import unittest
from fractions import Fraction

import plainly
from cases import cases, great_case, tight_cases
from odd import odd_things
from plainly import everything, pair
from propfall.errors import NoWeight
from propfall.falls import standing
from propfall.further import lots_left, mapped
from propfall.planks import Plank

PLANK = Plank(10, [(2, (1, 1)), (5, (3, 1)), (8, (2, 1))])
WEIGHTS = [((5, 1), (1, 1)), ((8, 1), (2, 1))]
SIZES = (Fraction(1, 2), Fraction(2), Fraction(5))


def some_cases(seed, many=40, most_props=4):
    return cases(many, most_props, seed) + tight_cases(many, most_props, seed)


def left_at(plank, weights, weight, place):
    return standing(plank, weights + [(pair(place), pair(weight))])


class Mapped(unittest.TestCase):
    def test_a_plank(self):
        # A weight of 2 on board (0, 1) fells 0 where its share is above a half.
        told = mapped(PLANK, WEIGHTS, (2, 1))
        self.assertEqual(told[0], ((0, 1), (0, 1, 2), (0, 1, 2)))
        self.assertEqual(told[1], ((1, 1), (0, 1, 2), (1, 2)))
        self.assertEqual(told[2][:2], ((7, 2), (0, 1, 2)))
        self.assertEqual(told[-1], ((10, 1), (0, 1, 2), None))

    def test_nothing_alters(self):
        everywhere = [((0, 1), (0, 1, 2), (0, 1, 2)), ((10, 1), (0, 1, 2), None)]
        self.assertEqual(mapped(PLANK, [], (1, 10 ** 39)), everywhere)
        self.assertEqual(mapped(Plank(2, []), [], (1, 1)), [((0, 1), (), ()), ((2, 1), (), None)])
        self.assertEqual(mapped(Plank(2, [(1, (0, 1))]), [((1, 1), (1, 1))], (1, 1)), [((0, 1), (), ()), ((2, 1), (), None)])

    def test_a_strength_of_nought(self):
        self.assertEqual(mapped(Plank(2, [(1, (0, 1))]), [], (1, 1)), [((0, 1), (0,), ()), ((2, 1), (0,), None)])

    def test_a_place_at_which_a_prop_stands_while_it_goes_on_both_sides(self):
        # At prop 1 the weight lies on it alone, and it is strong.
        plank = Plank(6, [(2, (0, 1)), (3, (9, 1)), (4, (0, 1))])
        self.assertEqual(mapped(plank, [], (1, 1)), [((0, 1), (0, 1, 2), (1, 2)), ((3, 1), (0, 1, 2), (0, 1)),
                                                     ((6, 1), (0, 1, 2), None)])

    def test_the_form_of_it(self):
        for plank, weights in some_cases(51):
            for weight in SIZES:
                told = mapped(plank, weights, pair(weight))
                self.assertIs(type(told), list)
                places = [Fraction(*place) for place, _, _ in told]
                self.assertEqual(places, sorted(set(places)))
                self.assertEqual((told[0][0], told[-1][0]), ((0, 1), (plank.length(), 1)))
                self.assertEqual([behind is None for _, _, behind in told], [False] * (len(told) - 1) + [True])
                for (_, _, ahead), (_, at, behind) in zip(told, told[1:-1]):
                    self.assertFalse(at == behind == ahead)
                    self.assertTrue(set(ahead) | set(behind) <= set(at))

    def test_against_standing_at_all_told_places_and_between(self):
        lengths = set()
        for plank, weights in some_cases(52):
            for weight in SIZES:
                told = mapped(plank, weights, pair(weight))
                lengths.add(len(told))
                for (place, at, behind), following in zip(told, told[1:] + [None]):
                    place = Fraction(*place)
                    self.assertEqual(at, left_at(plank, weights, weight, place))
                    if following is not None:
                        end = Fraction(*following[0])
                        for k in (1, 10 ** 9, 5 * 10 ** 9, 10 ** 10 - 1):
                            between = place + (end - place) * k / 10 ** 10
                            self.assertEqual(behind, left_at(plank, weights, weight, between))
        self.assertTrue({2, 3, 4, 5, 6, 7} <= lengths, lengths)

    def test_against_standing_all_over_the_plank(self):
        for plank, weights in some_cases(53, 12):
            told = mapped(plank, weights, (2, 1))
            for k in range(plank.length() * 15 + 1):
                place = Fraction(k, 15)
                last = [one for one in told if Fraction(*one[0]) <= place][-1]
                self.assertEqual(left_at(plank, weights, 2, place), last[1] if Fraction(*last[0]) == place else last[2])

    def test_against_going_through_all_lots(self):
        for plank, weights in some_cases(54, 10, 3):
            for place, at, _ in mapped(plank, weights, (2, 1)):
                self.assertEqual(at, plainly.standing(plank, weights + [(place, (2, 1))], everything(plank)))

    def test_great_ones(self):
        plank, weights = great_case((5, 2))
        weight = (10 ** 39 + 1, 10 ** 39)
        told = mapped(plank, weights, weight)
        self.assertTrue(len(told) > 4)
        for place, at, _ in told:
            self.assertEqual(at, standing(plank, weights + [(place, weight)]))

    def test_no_further_weight(self):
        for thing in odd_things() + [0, 1, (0, 1), (-1, 1), (-1, 3), (2, 2), (1, 0), (1, -1), [1, 1], (True, 1), "11"]:
            self.assertRaises(NoWeight, mapped, PLANK, WEIGHTS, thing)
            self.assertRaises(NoWeight, lots_left, PLANK, WEIGHTS, thing)


class LotsLeft(unittest.TestCase):
    def test_an_order(self):
        plank = Plank(6, [(2, (0, 1)), (3, (9, 1)), (4, (0, 1))])
        self.assertEqual(lots_left(plank, [], (1, 1)), [(0, 1, 2), (0, 1), (1, 2)])
        self.assertEqual(lots_left(Plank(2, [(1, (0, 1))]), [], (1, 1)), [(0,), ()])
        self.assertEqual(lots_left(Plank(2, []), [], (1, 1)), [()])

    def test_each_once_the_greater_ones_first(self):
        many = set()
        for plank, weights in some_cases(55):
            for weight in SIZES:
                lots = lots_left(plank, weights, pair(weight))
                self.assertIs(type(lots), list)
                self.assertEqual(lots, sorted(set(lots), key=lambda lot: (-len(lot), lot)))
                found = mapped(plank, weights, pair(weight))
                self.assertEqual(set(lots), {at for _, at, _ in found} | {behind for _, _, behind in found[:-1]})
                many.add(len(lots))
        self.assertTrue({1, 2, 3, 4} <= many, many)


if __name__ == "__main__":
    unittest.main()
