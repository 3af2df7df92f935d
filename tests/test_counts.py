"""How many rows of givings there are, and the numbers that they have [16, 17]."""

import unittest
from itertools import permutations
from math import factorial

import plainly
from cases import cases_with_lots, falling_case, great_case
from odd import Agreeable, Quarrelsome
from plainly import whole_rows
from propfall.errors import NoGivings, NoNumber, NoProp
from propfall.falls import givings, row_fault
from propfall.planks import Plank
from propfall.trees import ahead, how_many, number_of, row_at

# Prop 2 goes behind 1, prop 4 whenever it likes, 0 and 3 stand.
PLANK = Plank(14, [(2, (9, 1)), (4, (1, 2)), (6, (5, 4)), (8, (9, 1)), (11, (0, 1))])
WEIGHTS = [((4, 1), (1, 1)), ((6, 1), (1, 1)), ((11, 1), (1, 1))]
ROWS = [[1, 2, 4], [1, 4, 2], [4, 1, 2]]
FALLING, FALLING_WEIGHTS = falling_case()


class HowMany(unittest.TestCase):
    def test_one_where_none_gives_way(self):
        for plank, weights, lot in ((PLANK, [], None), (PLANK, WEIGHTS, ()), (PLANK, WEIGHTS, (0, 3)),
                                    (Plank(10, []), [((5, 1), (1, 1))], None)):
            self.assertEqual(how_many(plank, weights, lot=lot), 1)
            self.assertEqual(row_at(plank, weights, 0, lot=lot), [])
            self.assertEqual(number_of(plank, weights, [], lot=lot), 0)

    def test_a_few(self):
        self.assertEqual(how_many(PLANK, WEIGHTS), 3)
        self.assertEqual(how_many(PLANK, WEIGHTS, lot=(0, 2, 3, 4)), 2)
        self.assertEqual(how_many(PLANK, WEIGHTS, lot=(0, 1, 2, 3)), 1)

    def test_against_all_rows_gone_through(self):
        counts = set()
        for plank, weights, lot in cases_with_lots(most_props=5, many=50, seed=31):
            rows = whole_rows(plank, weights, lot)
            counts.add(len(rows))
            self.assertEqual(how_many(plank, weights, lot=lot), len(rows))
        self.assertGreater(len(counts), 10)

    def test_twelve_props(self):
        self.assertEqual(how_many(FALLING, FALLING_WEIGHTS), factorial(12))
        self.assertEqual(how_many(FALLING, FALLING_WEIGHTS, lot=tuple(range(1, 12))), factorial(11))
        # They fall from both ends on, the last one from either.
        self.assertEqual(how_many(FALLING, [((1, 1), (2, 1)), ((12, 1), (2, 1))]), 2 ** 11)
        self.assertEqual(how_many(FALLING, [((1, 1), (2, 1))]), 1)


class Ahead(unittest.TestCase):
    def refused(self, plank, weights, one, other, lot=None):
        with self.assertRaises(NoProp) as caught:
            ahead(plank, weights, one, other, lot=lot)
        return caught.exception.prop

    def test_a_few(self):
        for one, other, many in ((1, 2, 3), (2, 1, 0), (1, 4, 2), (4, 1, 1), (2, 4, 1), (4, 2, 2)):
            self.assertEqual(ahead(PLANK, WEIGHTS, one, other), many)
        self.assertEqual(ahead(PLANK, WEIGHTS, 4, 2, lot=(0, 2, 3, 4)), 1)

    def test_against_all_rows_gone_through(self):
        seen = 0
        for plank, weights, lot in cases_with_lots(most_props=5, many=50, seed=32):
            rows = whole_rows(plank, weights, lot)
            for one, other in permutations(rows[0], 2):
                seen += 1
                self.assertEqual(ahead(plank, weights, one, other, lot=lot),
                                 sum(row.index(one) < row.index(other) for row in rows))
        self.assertGreater(seen, 200)

    def test_twelve_props(self):
        plank, weights = great_case()
        many = how_many(plank, weights)
        for one, other in ((0, 1), (3, 9), (11, 10)):
            self.assertEqual(ahead(FALLING, FALLING_WEIGHTS, one, other), factorial(12) // 2)
            self.assertEqual(ahead(plank, weights, one, other) + ahead(plank, weights, other, one), many)

    def test_props_that_do_not_fall(self):
        for prop in (0, 3):
            self.assertEqual(self.refused(PLANK, WEIGHTS, prop, 1), prop)
            self.assertEqual(self.refused(PLANK, WEIGHTS, 1, prop), prop)
        self.assertEqual(self.refused(PLANK, [], 1, 2), 1)

    def test_one_told_twice(self):
        for prop in range(5):
            self.assertEqual(self.refused(PLANK, WEIGHTS, prop, prop), prop)

    def test_the_one_ahead_of_the_other(self):
        self.assertEqual(self.refused(PLANK, WEIGHTS, 0, 3), 0)
        self.assertEqual(self.refused(PLANK, WEIGHTS, 3, 0), 3)
        self.assertEqual(self.refused(PLANK, WEIGHTS, 0, None), 0)
        self.assertEqual(self.refused(PLANK, WEIGHTS, 9, 0), 9)
        self.assertEqual(self.refused(PLANK, WEIGHTS, 1, 2, lot=(2, 4)), 1)
        self.assertEqual(self.refused(PLANK, WEIGHTS, 2, 1, lot=(2, 4)), 1)

    def test_of_anything(self):
        for thing in (None, True, False, 1.0, "1", [1], (1,), {}, set(), 5, -1, 10 ** 50, Agreeable(), Quarrelsome()):
            self.assertIs(self.refused(PLANK, WEIGHTS, thing, 1), thing)
            self.assertIs(self.refused(PLANK, WEIGHTS, 1, thing), thing)
            self.assertIs(self.refused(PLANK, WEIGHTS, thing, Quarrelsome()), thing)


class Numbers(unittest.TestCase):
    def test_a_few(self):
        for number, row in enumerate(ROWS):
            self.assertEqual(row_at(PLANK, WEIGHTS, number), row)
            self.assertEqual(number_of(PLANK, WEIGHTS, row), number)

    def test_all_of_small_planks_against_the_sorted_rows(self):
        for plank, weights, lot in cases_with_lots(most_props=5, many=40, seed=33):
            rows = sorted(whole_rows(plank, weights, lot))
            self.assertEqual([row_at(plank, weights, number, lot=lot) for number in range(len(rows))], rows)
            self.assertEqual([number_of(plank, weights, row, lot=lot) for row in rows], [*range(len(rows))])
            self.assertRaises(NoNumber, row_at, plank, weights, len(rows), lot=lot)

    def test_twelve_props_that_all_fall_in_whatever_order(self):
        for number in [*range(30), 12345678, factorial(11), factorial(12) // 3, factorial(12) - 2, factorial(12) - 1]:
            row, left, rest = [], [*range(12)], number
            for many in range(11, -1, -1):
                row.append(left.pop(rest // factorial(many)))
                rest %= factorial(many)
            self.assertEqual(row_at(FALLING, FALLING_WEIGHTS, number), row)
            self.assertEqual(number_of(FALLING, FALLING_WEIGHTS, row), number)
        self.assertRaises(NoNumber, row_at, FALLING, FALLING_WEIGHTS, factorial(12))

    def test_twelve_props_of_great_figures(self):
        for strength in ((0, 1), (3, 2), (5, 2)):
            plank, weights = great_case(strength)
            many = how_many(plank, weights)
            rows = []
            for number in sorted({0, many // 7, many // 3, many // 2, many - 1}):
                rows.append(row_at(plank, weights, number))
                self.assertIsNone(row_fault(plank, weights, rows[-1]))
                self.assertEqual(number_of(plank, weights, rows[-1]), number)
            self.assertEqual(rows, sorted(rows))
            number = number_of(plank, weights, givings(plank, weights))
            self.assertEqual(row_at(plank, weights, number), givings(plank, weights))
            self.assertRaises(NoNumber, row_at, plank, weights, many)

    def test_the_fault_of_no_whole_row(self):
        for row, fault in (([], ("more", 1)), ([4], ("more", 1)), ([1, 2], ("more", 4)), ([1, 4], ("more", 2)),
                           ([2, 1, 4], ("bears", 0)), ([1, 2, 0], ("bears", 2)), ([1, 2, 4, 0], ("bears", 3)),
                           ([1, 1, 2], ("form",)), ([1, 2, 5], ("form",)), ((1, 2, 4), ("form",))):
            with self.assertRaises(NoGivings) as caught:
                number_of(PLANK, WEIGHTS, row)
            self.assertEqual(caught.exception.fault, fault)
            self.assertEqual(row_fault(PLANK, WEIGHTS, row), fault)

    def test_the_fault_hangs_on_the_lot(self):
        with self.assertRaises(NoGivings) as caught:
            number_of(PLANK, WEIGHTS, [1, 2, 4], lot=(0, 2, 3, 4))
        self.assertEqual(caught.exception.fault, ("form",))
        self.assertEqual(number_of(PLANK, WEIGHTS, [4, 2], lot=(0, 2, 3, 4)), 1)
        with self.assertRaises(NoGivings) as caught:
            number_of(PLANK, WEIGHTS, [0], lot=(0, 3))
        self.assertEqual(caught.exception.fault, ("bears", 0))


class PlainlyIsRight(unittest.TestCase):
    def test_the_rows_that_others_are_compared_with(self):
        self.assertEqual(whole_rows(PLANK, WEIGHTS, plainly.everything(PLANK)), ROWS)


if __name__ == "__main__":
    unittest.main()
