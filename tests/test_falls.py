"""What stands, what falls, rows of givings and the papers for either side [4, 10, 11, 12]."""

import unittest
from itertools import permutations

import plainly
from cases import cases, cases_with_lots, falling_case, great_case
from odd import Agreeable, Quarrelsome, odd_things
from plainly import everything, is_row, lots_within, without
from propfall.falls import givings, is_why, row_fault, standing, why
from propfall.planks import Plank

# While all stand just prop 1 is overlaid; then 2, then 3; 0 stands.
CHAIN = Plank(10, [(2, (9, 1)), (4, (1, 2)), (6, (5, 4)), (8, (3, 2))])
WEIGHTS = [((4, 1), (1, 1)), ((6, 1), (1, 1)), ((8, 1), (1, 1))]
NO_ROWS = odd_things() + [0, "0", (1, 2, 3), [True], [1, 2, True], [1.0], ["1"], [None], [[1]], [(1,)], [4], [-1],
                          [1, 1], [1, 2, 1], [1, 2, 3, 4], [10 ** 50], [Quarrelsome()], [1, Agreeable()], {1: 2}]


class Standing(unittest.TestCase):
    def test_by_just_its_strength_a_prop_stands(self):
        plank = Plank(10, [(5, (1, 1))])
        self.assertEqual(standing(plank, [((5, 1), (1, 1))]), (0,))
        self.assertEqual(standing(plank, [((5, 1), (10 ** 39 + 1, 10 ** 39))]), ())
        self.assertEqual(standing(plank, [((4, 1), (5, 4))]), (0,))
        self.assertEqual(standing(plank, [((4, 1), (5, 4)), ((6, 1), (1, 10 ** 39))]), ())

    def test_a_strength_of_nought(self):
        plank = Plank(10, [(3, (0, 1)), (6, (0, 1))])
        self.assertEqual(standing(plank, []), (0, 1))
        self.assertEqual(standing(plank, [((0, 1), (9, 1)), ((10, 1), (9, 1))]), (0, 1))
        self.assertEqual(standing(plank, [((1, 1), (1, 1))]), ())
        self.assertEqual(standing(plank, [((1, 1), (1, 1))], lot=(1,)), ())

    def test_a_chain(self):
        self.assertEqual(standing(CHAIN, WEIGHTS), (0,))
        self.assertEqual(givings(CHAIN, WEIGHTS), [1, 2, 3])
        self.assertEqual(standing(CHAIN, WEIGHTS, lot=(0, 2, 3)), (0,))
        self.assertEqual(standing(CHAIN, WEIGHTS, lot=(0, 1, 3)), (0,))
        self.assertEqual(standing(CHAIN, WEIGHTS[1:]), (0, 1, 2, 3))

    def test_no_props_and_the_bare_lot(self):
        self.assertEqual(standing(Plank(10, []), WEIGHTS), ())
        self.assertEqual(givings(Plank(10, []), WEIGHTS), [])
        self.assertEqual(standing(CHAIN, WEIGHTS, lot=()), ())
        self.assertEqual(givings(CHAIN, WEIGHTS, lot=()), [])

    def test_the_one_that_has_all_others_within_it(self):
        seen = set()
        for plank, weights, lot in cases_with_lots():
            left = plainly.standing(plank, weights, lot)
            self.assertEqual(standing(plank, weights, lot=lot), left)
            seen.add((len(lot), len(left)))
        self.assertTrue({(4, 0), (4, 1), (4, 2), (4, 3), (4, 4)} <= seen, seen)

    def test_each_whole_row_leaves_it(self):
        for plank, weights in cases(seed=12):
            left = set(standing(plank, weights))
            for row in plainly.whole_rows(plank, weights, everything(plank)):
                self.assertEqual(set(row), set(everything(plank)) - left)

    def test_great_ones(self):
        plank, weights = great_case()
        self.assertEqual(standing(plank, weights), ())
        self.assertEqual(standing(plank.strengthened([(99, 1)] * 12), weights), everything(plank))
        self.assertEqual(standing(plank.strengthened([(0, 1)] * 11 + [(99, 1)]), weights), (11,))


class Givings(unittest.TestCase):
    def test_a_whole_row_by_going_along_it(self):
        for plank, weights, lot in cases_with_lots(seed=13) + [(*great_case(), None)]:
            row = givings(plank, weights, lot=lot)
            lot = everything(plank) if lot is None else lot
            self.assertIs(type(row), list)
            for prop in row:
                self.assertIn(prop, plainly.overlaid(plank, weights, lot))
                lot = without(lot, prop)
            self.assertEqual(plainly.overlaid(plank, weights, lot), [])
            self.assertEqual(lot, standing(plank, weights, lot=lot))

    def test_it_has_no_fault(self):
        for plank, weights, lot in cases_with_lots(seed=14):
            self.assertIsNone(row_fault(plank, weights, givings(plank, weights, lot=lot), lot=lot))


class RowFault(unittest.TestCase):
    def test_right_ones(self):
        self.assertIsNone(row_fault(CHAIN, WEIGHTS, [1, 2, 3]))
        self.assertIsNone(row_fault(CHAIN, WEIGHTS, [2, 3], lot=(0, 2, 3)))
        self.assertIsNone(row_fault(CHAIN, WEIGHTS, [], lot=()))
        self.assertIsNone(row_fault(CHAIN, [], []))
        plank, weights = falling_case()
        for row in ([*range(12)], [*range(11, -1, -1)], [3, 1, 4, 0, 5, 9, 2, 6, 8, 7, 11, 10]):
            self.assertIsNone(row_fault(plank, weights, row))

    def test_no_lists_of_unlike_props_of_the_lot(self):
        for thing in NO_ROWS:
            self.assertEqual(row_fault(CHAIN, WEIGHTS, thing), ("form",))
        for thing in ([1], [1, 2, 3], [2, 3, 1], [2, 1], [0, 1]):
            self.assertEqual(row_fault(CHAIN, WEIGHTS, thing, lot=(0, 2, 3)), ("form",))
        self.assertEqual(row_fault(CHAIN, WEIGHTS, [0], lot=()), ("form",))

    def test_the_first_that_is_not_overlaid_in_its_turn(self):
        for row, at in (([0], 0), ([2], 0), ([3, 1], 0), ([0, 1, 2, 3], 0), ([1, 0], 1), ([1, 3], 1), ([1, 3, 0], 1),
                        ([1, 2, 0], 2), ([1, 2, 0, 3], 2), ([1, 2, 3, 0], 3)):
            self.assertEqual(row_fault(CHAIN, WEIGHTS, row), ("bears", at))

    def test_the_least_that_is_overlaid_behind_them(self):
        self.assertEqual(row_fault(CHAIN, WEIGHTS, []), ("more", 1))
        self.assertEqual(row_fault(CHAIN, WEIGHTS, [1]), ("more", 2))
        self.assertEqual(row_fault(CHAIN, WEIGHTS, [1, 2]), ("more", 3))
        plank, weights = falling_case()
        self.assertEqual(row_fault(plank, weights, []), ("more", 0))
        self.assertEqual(row_fault(plank, weights, [5, 0, 7]), ("more", 1))
        self.assertEqual(row_fault(plank, weights, [*range(11)]), ("more", 11))
        self.assertEqual(row_fault(plank, weights, [2], lot=(2, 4, 9)), ("more", 4))

    def test_which_of_several_is_told(self):
        # Form ahead of what bears, that ahead of what is left.
        self.assertEqual(row_fault(CHAIN, WEIGHTS, [0, 0]), ("form",))
        self.assertEqual(row_fault(CHAIN, WEIGHTS, [0, None]), ("form",))
        self.assertEqual(row_fault(CHAIN, WEIGHTS, [3, 2]), ("bears", 0))

    def test_all_rows_of_small_planks(self):
        seen = set()
        for plank, weights, lot in cases_with_lots(many=20, seed=15):
            whole = plainly.whole_rows(plank, weights, lot)
            for some in lots_within(lot):
                for row in map(list, permutations(some)):
                    fault = row_fault(plank, weights, row, lot=lot)
                    seen.add(fault if fault is None else fault[0])
                    self.assertEqual(fault is None, row in whole)
                    self.assertEqual(fault is None or fault[0] == "more", is_row(plank, weights, lot, row))
                    if fault and fault[0] == "bears":
                        self.assertTrue(is_row(plank, weights, lot, row[:fault[1]]))
                        self.assertFalse(is_row(plank, weights, lot, row[:fault[1] + 1]))
                    elif fault:
                        behind = tuple(prop for prop in lot if prop not in row)
                        self.assertEqual(fault, ("more", min(plainly.overlaid(plank, weights, behind))))
        self.assertEqual(seen, {None, "bears", "more"})


class Why(unittest.TestCase):
    def test_by_looking_at_what_it_tells(self):
        sides = set()
        for plank, weights, lot in cases_with_lots(seed=16):
            left = plainly.standing(plank, weights, lot)
            for prop in lot:
                told = why(plank, weights, prop, lot=lot)
                self.assertIs(type(told), tuple)
                side, paper = told
                sides.add(side)
                self.assertEqual(side, "stands" if prop in left else "falls")
                if side == "stands":
                    self.assertTrue(paper in lots_within(lot) and prop in paper)
                    self.assertEqual(plainly.overlaid(plank, weights, paper), [])
                else:
                    self.assertTrue(type(paper) is list and paper[-1] == prop)
                    self.assertTrue(is_row(plank, weights, lot, paper))
                self.assertIs(is_why(plank, weights, prop, told, lot=lot), True)
        self.assertEqual(sides, {"stands", "falls"})

    def test_a_chain(self):
        self.assertEqual(why(CHAIN, WEIGHTS, 0), ("stands", (0,)))
        self.assertEqual(why(CHAIN, WEIGHTS, 3), ("falls", [1, 2, 3]))
        self.assertEqual(why(CHAIN, WEIGHTS, 2), ("falls", [1, 2]))
        self.assertEqual(why(CHAIN, WEIGHTS, 3, lot=(3,)), ("falls", [3]))


class IsWhy(unittest.TestCase):
    def test_right_papers_whoever_made_them(self):
        self.assertIs(is_why(CHAIN, WEIGHTS, 0, ("stands", (0,))), True)
        self.assertIs(is_why(CHAIN, [], 0, ("stands", (0, 2))), True)
        self.assertIs(is_why(CHAIN, [], 0, ("stands", (0, 1, 2, 3))), True)
        self.assertIs(is_why(CHAIN, WEIGHTS, 2, ("falls", [1, 2])), True)
        plank, weights = falling_case()
        for row in ([4], [0, 11, 4], [*range(11, 3, -1)]):
            self.assertIs(is_why(plank, weights, 4, ("falls", row)), True)

    def test_wrong_lots(self):
        for lot in ((), (1,), (1, 2, 3), (0, 1), (0, 3), (0, 2), (0, 1, 2, 3), (0, 0), (1, 0), (0, 4), (-1, 0), (False,),
                    [0], [0, 1], {0}, {0: 0}, "0", 0, None, True, Agreeable(), Quarrelsome(), (Agreeable(),),
                    (0, Quarrelsome()), (0.0,), ((0,),)):
            self.assertIs(is_why(CHAIN, WEIGHTS, 0, ("stands", lot)), False)
        self.assertIs(is_why(CHAIN, [], 0, ("stands", (0, 1)), lot=(0, 2)), False)
        self.assertIs(is_why(CHAIN, [], 0, ("stands", (1, 2))), False)

    def test_wrong_rows(self):
        for row in ([], [1], [2], [2, 1], [1, 2, 3], [1, 3, 2], [0, 1, 2], [1, 2, 2], [1, 1, 2], (1, 2), [1, 4, 2],
                    [True, 2], [1, 2.0], [1, None], None, 2, "12", {1: 0, 2: 0}, Agreeable(), Quarrelsome(),
                    [Agreeable()], [1, Agreeable()], [Quarrelsome(), 2]):
            self.assertIs(is_why(CHAIN, WEIGHTS, 2, ("falls", row)), False)
        self.assertIs(is_why(CHAIN, WEIGHTS, 2, ("falls", [1, 2]), lot=(0, 2, 3)), False)

    def test_no_such_tuples(self):
        right = ("falls", [1, 2])
        for thing in odd_things() + [0, [], list(right), right[:1], (*right, 1), (right,), ("stands", [1, 2]),
                                     ("FALLS", [1, 2]), ("fall", [1, 2]), (b"falls", [1, 2]), ("", [1, 2]),
                                     (None, [1, 2]), (Agreeable(), [1, 2]), (Quarrelsome(), [1, 2]), (0, [1, 2]),
                                     ("falls", (2,)), ("stands", (2,)), ([1, 2], "falls"), {"falls": [1, 2]}, "falls"]:
            self.assertIs(is_why(CHAIN, WEIGHTS, 2, thing), False)
        self.assertIs(is_why(CHAIN, WEIGHTS, 0, ("falls", (0,))), False)

    def test_all_papers_of_small_planks_and_never_of_both_sides(self):
        for plank, weights, lot in cases_with_lots(many=15, seed=17):
            for prop in lot:
                right = {"stands": 0, "falls": 0}
                for some in lots_within(everything(plank)):
                    told = is_why(plank, weights, prop, ("stands", some), lot=lot)
                    right["stands"] += told
                    self.assertIs(told, prop in some and set(some) <= set(lot)
                                  and not plainly.overlaid(plank, weights, some))
                    for row in map(list, permutations(some)):
                        told = is_why(plank, weights, prop, ("falls", row), lot=lot)
                        right["falls"] += told
                        self.assertIs(told, row[-1:] == [prop] and is_row(plank, weights, lot, row))
                self.assertEqual(right["stands"] > 0, prop in standing(plank, weights, lot=lot))
                self.assertEqual(right["falls"] > 0, right["stands"] == 0)


if __name__ == "__main__":
    unittest.main()
