"""What lies on the rests, whatever lot stands, and how boards bend [4, 7, 8, 9]."""

import unittest
from fractions import Fraction
from math import gcd

import plainly
from cases import cases, cases_with_lots, great_case
from plainly import pair, rests_of, told
from propfall.fractions import is_fraction
from propfall.loads import bend_at, boards, borne, holds
from propfall.planks import Plank

PLANK = Plank(10, [(2, (1, 1)), (5, (1, 2)), (8, (4, 1))], bend=(3, 2))


class Borne(unittest.TestCase):
    def check(self, weights, lot, on):
        self.assertEqual(borne(PLANK, weights, lot=lot), list(zip(rests_of(PLANK, lot), on)))

    def test_a_weight_at_a_rest_lies_on_it_whole(self):
        for rest, place in enumerate((0, 2, 5, 8, 10)):
            on = [(0, 1)] * 5
            on[rest] = (7, 3)
            self.check([((place, 1), (7, 3))], (0, 1, 2), on)

    def test_a_weight_at_a_wall_lies_on_it_whatever_stands(self):
        for lot in ((), (0,), (1, 2)):
            many = len(lot)
            self.check([((0, 1), (2, 1)), ((10, 1), (5, 2))], lot, [(2, 1)] + [(0, 1)] * many + [(5, 2)])

    def test_a_weight_at_a_prop_that_is_not_of_the_lot(self):
        self.check([((5, 1), (1, 1))], (0, 2), [(0, 1), (1, 2), (1, 2), (0, 1)])
        self.check([((5, 1), (1, 1))], (0,), [(0, 1), (5, 8), (3, 8)])
        self.check([((2, 1), (1, 1))], (1,), [(3, 5), (2, 5), (0, 1)])
        self.check([((8, 1), (1, 1))], (), [(1, 5), (4, 5)])

    def test_a_weight_between(self):
        self.check([((3, 1), (1, 1))], (0, 1, 2), [(0, 1), (2, 3), (1, 3), (0, 1), (0, 1)])
        self.check([((1, 2), (4, 1))], (0, 1, 2), [(3, 1), (1, 1), (0, 1), (0, 1), (0, 1)])
        self.check([((19, 2), (1, 5))], (0, 1, 2), [(0, 1), (0, 1), (0, 1), (1, 20), (3, 20)])
        self.check([((7, 2), (1, 1))], (0,), [(0, 1), (13, 16), (3, 16)])

    def test_no_weights_and_no_props(self):
        self.check([], (0, 1, 2), [(0, 1)] * 5)
        self.check([], (), [(0, 1)] * 2)
        self.assertEqual(borne(Plank(7, []), [((2, 1), (1, 1))]), [(-1, (5, 7)), (0, (2, 7))])
        self.assertEqual(borne(Plank(2, [(1, (0, 1))]), [((1, 1), (1, 1))]), [(-1, (0, 1)), (0, (1, 1)), (1, (0, 1))])

    def test_several_weights_at_one_place(self):
        self.check([((5, 1), (1, 2)), ((5, 1), (1, 3)), ((5, 1), (1, 6))], (1,), [(0, 1), (1, 1), (0, 1)])
        self.check([((3, 1), (1, 1))] * 3, (0, 1), [(0, 1), (2, 1), (1, 1), (0, 1)])

    def test_no_lot_told_is_all_props(self):
        weights = [((3, 1), (1, 1)), ((9, 1), (1, 1))]
        self.assertEqual(borne(PLANK, weights), borne(PLANK, weights, lot=(0, 1, 2)))
        self.assertEqual([rest for rest, _ in borne(PLANK, weights)], [-1, 0, 1, 2, 3])

    def test_as_the_document_says_it(self):
        for plank, weights, lot in cases_with_lots():
            on = plainly.laid(plank, weights, rests_of(plank, lot))
            self.assertEqual(borne(plank, weights, lot=lot), [(rest, pair(on[rest])) for rest in rests_of(plank, lot)])

    def test_sum_and_moment_stay_whatever_lot_stands(self):
        plank, weights = great_case()
        great = [(plank, weights, lot) for lot in ((), (3,), (0, 11), (1, 4, 5, 9), tuple(range(12)))]
        for plank, weights, lot in cases_with_lots(seed=5) + great:
            on = borne(plank, weights, lot=lot)
            self.assertEqual(sum(Fraction(*each) for _, each in on), sum(weight for _, weight in told(weights)))
            self.assertEqual(sum(Fraction(*each) * plank.place_of(rest) for rest, each in on),
                             sum(place * weight for place, weight in told(weights)))

    def test_in_lowest_terms_and_from_nought_on(self):
        plank, weights = great_case()
        for rest, (top, bottom) in borne(plank, weights) + borne(plank, weights, lot=(4,)):
            self.assertTrue(is_fraction((top, bottom)) and gcd(top, bottom) == 1 and top >= 0)
        self.assertIn((0, (0, 1)), borne(PLANK, []))

    def test_what_lies_on_a_prop_never_lessens_as_another_one_goes(self):
        for plank, weights, lot in cases_with_lots(seed=6):
            on = dict(borne(plank, weights, lot=lot))
            for prop in lot:
                then = dict(borne(plank, weights, lot=plainly.without(lot, prop)))
                for rest, each in then.items():
                    self.assertGreaterEqual(Fraction(*each), Fraction(*on[rest]))

    def test_what_was_told_may_be_handed_in_again(self):
        plank, weights = great_case()
        again = [((4, 1), on) for _, on in borne(plank, weights)]
        self.assertEqual(borne(plank, again)[4][1], pair(sum(weight for _, weight in told(weights))))

    def test_strengths_and_bends_are_nothing_to_it(self):
        weights = [((3, 1), (100, 1))]
        other = Plank(10, [(2, (0, 1)), (5, (0, 1)), (8, (0, 1))])
        self.assertEqual(borne(PLANK, weights), borne(other, weights))


class BendAt(unittest.TestCase):
    def test_nought_at_rests(self):
        weights = [((3, 1), (1, 1)), ((5, 1), (2, 1)), ((9, 1), (1, 1)), ((0, 1), (3, 1)), ((10, 1), (3, 1))]
        for place in (0, 2, 5, 8, 10):
            self.assertEqual(bend_at(PLANK, weights, (place, 1)), (0, 1))
        self.assertEqual(bend_at(PLANK, weights, (0, 1), lot=()), (0, 1))
        self.assertEqual(bend_at(PLANK, weights, (10, 1), lot=()), (0, 1))
        self.assertEqual(bend_at(PLANK, weights, (2, 1), lot=(0,)), (0, 1))

    def test_at_a_weight(self):
        self.assertEqual(bend_at(PLANK, [((3, 1), (1, 1))], (3, 1)), (2, 3))
        self.assertEqual(bend_at(PLANK, [((7, 2), (4, 1))], (7, 2)), (3, 1))
        self.assertEqual(bend_at(PLANK, [((5, 1), (1, 1))], (5, 1), lot=()), (5, 2))
        self.assertEqual(bend_at(PLANK, [((5, 1), (1, 1))], (5, 1), lot=(0, 2)), (3, 2))

    def test_between_on_either_side_of_a_weight(self):
        weights = [((4, 1), (3, 1))]
        self.assertEqual(bend_at(PLANK, weights, (3, 1)), (1, 1))
        self.assertEqual(bend_at(PLANK, weights, (9, 2)), (1, 1))
        self.assertEqual(bend_at(PLANK, weights, (5, 2)), (1, 2))
        self.assertEqual(bend_at(PLANK, weights, (1, 1)), (0, 1))
        self.assertEqual(bend_at(PLANK, weights, (6, 1), lot=()), (24, 5))

    def test_several_weights_and_those_of_other_boards(self):
        weights = [((3, 1), (1, 1)), ((4, 1), (1, 1)), ((4, 1), (1, 2)), ((6, 1), (9, 1)), ((1, 1), (9, 1))]
        self.assertEqual(bend_at(PLANK, weights, (3, 1)), (7, 6))

    def test_no_weights(self):
        for lot in ((), (1,), None):
            self.assertEqual(bend_at(PLANK, [], (7, 3), lot=lot), (0, 1))

    def test_as_the_document_says_it(self):
        for plank, weights, lot in cases_with_lots(many=40, seed=8):
            places = [pair(Fraction(top, 3)) for top in range(3 * plank.length() + 1)]
            for place in places + [place for place, _ in weights]:
                self.assertEqual(bend_at(plank, weights, place, lot=lot),
                                 pair(plainly.bend(plank, weights, lot, place)))

    def test_great_figures(self):
        plank, weights = great_case()
        for place, _ in weights:
            self.assertEqual(bend_at(plank, weights, place), pair(plainly.bend(plank, weights, range(12), place)))
            self.assertEqual(bend_at(plank, weights, place, lot=()), pair(plainly.bend(plank, weights, (), place)))


class Boards(unittest.TestCase):
    def test_boards_without_weights(self):
        self.assertEqual(boards(PLANK, []), [(-1, 0, (0, 1), (0, 1)), (0, 1, (0, 1), (2, 1)), (1, 2, (0, 1), (5, 1)),
                                             (2, 3, (0, 1), (8, 1))])
        self.assertEqual(boards(PLANK, [], lot=()), [(-1, 3, (0, 1), (0, 1))])
        self.assertEqual(boards(PLANK, [], lot=(1,)), [(-1, 1, (0, 1), (0, 1)), (1, 3, (0, 1), (5, 1))])

    def test_weights_at_rests_are_within_no_board(self):
        weights = [((place, 1), (1, 1)) for place in (0, 2, 5, 8, 10)]
        self.assertEqual(boards(PLANK, weights), boards(PLANK, []))

    def test_the_greatest_bend_and_its_place(self):
        weights = [((7, 2), (4, 1)), ((9, 1), (1, 1))]
        self.assertEqual(boards(PLANK, weights), [(-1, 0, (0, 1), (0, 1)), (0, 1, (3, 1), (7, 2)),
                                                  (1, 2, (0, 1), (5, 1)), (2, 3, (1, 2), (9, 1))])

    def test_of_two_places_of_the_same_bend_the_least_one(self):
        for weights in ([((6, 1), (1, 1)), ((7, 1), (1, 1))], [((7, 1), (1, 1)), ((6, 1), (1, 1))]):
            self.assertEqual(boards(PLANK, weights)[2], (1, 2, (1, 1), (6, 1)))
        for places in ((4, 6), (6, 4)):
            weights = [((place, 1), (1, 1)) for place in places]
            self.assertEqual(boards(PLANK, weights, lot=()), [(-1, 3, (4, 1), (4, 1))])
        three = [((7, 1), (1, 1)), ((5, 1), (1, 10 ** 9)), ((3, 1), (1, 1))]
        self.assertEqual(boards(PLANK, three, lot=())[0][3], (5, 1))

    def test_as_the_document_says_it(self):
        for plank, weights, lot in cases_with_lots():
            rests = rests_of(plank, lot)
            found = boards(plank, weights, lot=lot)
            self.assertEqual([board[:2] for board in found], list(zip(rests, rests[1:])))
            for left, right, most, place in found:
                start, end = plank.place_of(left), plank.place_of(right)
                within = [at for at, _ in weights if start < Fraction(*at) < end] or [(start, 1)]
                bends = [(-plainly.bend(plank, weights, lot, at), Fraction(*at)) for at in within]
                self.assertEqual((most, place), (pair(-min(bends)[0]), pair(min(bends)[1])))
                for top in range(start * 4, end * 4 + 1):
                    self.assertLessEqual(plainly.bend(plank, weights, lot, (top, 4)), Fraction(*most))


class Holds(unittest.TestCase):
    def test_a_bend_of_none_holds_all(self):
        plank = Plank(10, PLANK.props())
        for lot in ((), (0,), (0, 1, 2), None):
            self.assertIs(holds(plank, [((7, 2), (10 ** 9, 1))], lot=lot), True)

    def test_a_bend_that_is_just_reached_and_just_passed(self):
        self.assertIs(holds(PLANK, [((4, 1), (9, 4))]), True)
        self.assertIs(holds(PLANK, [((4, 1), (9 * 10 ** 9 + 1, 4 * 10 ** 9))]), False)
        self.assertIs(holds(PLANK, [((4, 1), (2, 1))]), True)

    def test_a_bend_of_nought(self):
        plank = Plank(10, PLANK.props(), bend=(0, 1))
        self.assertIs(holds(plank, []), True)
        self.assertIs(holds(plank, [((2, 1), (9, 1))]), True)
        self.assertIs(holds(plank, [((2, 1), (9, 1))], lot=(1, 2)), False)
        self.assertIs(holds(plank, [((3, 1), (1, 10 ** 39))]), False)

    def test_of_lots(self):
        weights = [((5, 1), (1, 1))]
        self.assertIs(holds(PLANK, weights), True)
        self.assertIs(holds(PLANK, weights, lot=(0, 2)), True)
        self.assertIs(holds(PLANK, weights, lot=(0,)), False)
        self.assertIs(holds(PLANK, weights, lot=()), False)
        self.assertIs(holds(PLANK, weights, lot=(1,)), True)

    def test_each_board_counts(self):
        for place in (1, 3, 6, 9):
            self.assertIs(holds(PLANK, [((place, 1), (9, 1))]), False)

    def test_as_the_boards_tell(self):
        seen = set()
        for plank, weights in cases(seed=9):
            most = max(Fraction(*board[2]) for board in boards(plank, weights))
            seen.add(most <= Fraction(*plank.bend()))
            self.assertIs(holds(plank, weights), most <= Fraction(*plank.bend()))
        self.assertEqual(seen, {True, False})


if __name__ == "__main__":
    unittest.main()
