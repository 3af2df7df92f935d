"""What all functions of loads, falls and trees refuse, in which order, and that nothing is kept [2, 6, 8, 13]."""

import copy
import inspect
import unittest

from odd import Agreeable, Quarrelsome, no_fractions, no_fractions_from_nought, odd_things
from propfall import falls, loads, trees
from propfall.errors import (FallError, NoGivings, NoLot, NoNumber, NoPlace, NoProp, NoRest, NoWeights)
from propfall.planks import Plank

# Three props that all fall; what is handed in besides plank and weights is right.
PLANK = Plank(10, [(2, (0, 1)), (5, (1, 2)), (8, (0, 1))], bend=(3, 1))
WEIGHTS = [((2, 1), (1, 1)), ((5, 1), (1, 1)), ((8, 1), (2, 1)), ((0, 1), (7, 1)), ((10, 1), (1, 3))]
FUNCTIONS = {
    loads.borne: [], loads.bend_at: [(3, 1)], loads.boards: [], loads.holds: [],
    falls.standing: [], falls.givings: [], falls.row_fault: [[0, 1, 2]], falls.why: [1],
    falls.is_why: [1, ("falls", [1])], trees.tree: [-1, 3], trees.is_tree: [-1, 3, (0, None, (1, None, (2, None, None)))],
    trees.how_many: [], trees.ahead: [0, 1], trees.row_at: [0], trees.number_of: [[0, 1, 2]], trees.soonest: [1],
    trees.no_sooner: [1, 1], trees.is_no_sooner: [1, 1, []]}
PARAMETERS = {
    loads.borne: "", loads.bend_at: "place", loads.boards: "", loads.holds: "", falls.standing: "",
    falls.givings: "", falls.row_fault: "thing", falls.why: "prop", falls.is_why: "prop thing",
    trees.tree: "left right", trees.is_tree: "left right thing", trees.how_many: "", trees.ahead: "one other",
    trees.row_at: "number", trees.number_of: "row", trees.soonest: "prop", trees.no_sooner: "prop many",
    trees.is_no_sooner: "prop many thing"}
WITH_PROP = [falls.why, falls.is_why, trees.soonest, trees.no_sooner, trees.is_no_sooner]
NO_WEIGHTS = odd_things() + [0, tuple(WEIGHTS), dict(WEIGHTS), iter(WEIGHTS), ((1, 1), (1, 1))]
NO_LOTS = [True, False, 0, 1, 1.0, "", "01", b"", [], [0], [0, 1, 2], {}, {0: 1}, {0, 1}, frozenset((0, 1)), range(2),
           iter((0, 1)), Quarrelsome(), Agreeable(), object(), (1, 0), (0, 0), (2, 1), (0, 2, 1), (0, 1, 1), (3,),
           (-1,), (0, 3), (-1, 0), (0, 1, 2, 3), (True,), (False, 1), (0, True), (1.0,), ("0",), (None,), ((0,),), ([],),
           ({},), (0, Quarrelsome()), (Agreeable(),), (10 ** 50,)]
NO_PROPS = odd_things() + [3, -1, 10 ** 50, [0], (0,), (0, 1), "0"]


def field_refused(test, refusal, asked, *told, **named):
    """Tell what the refusal of such a kind bears."""
    with test.assertRaises(refusal) as caught:
        asked(*told, **named)
    test.assertIs(type(caught.exception), refusal)
    return caught.exception


class Interface(unittest.TestCase):
    def test_names_and_arguments(self):
        for asked, names in PARAMETERS.items():
            parameters = list(inspect.signature(asked).parameters.values())
            self.assertEqual([one.name for one in parameters], ["plank", "weights", *names.split(), "lot"])
            self.assertEqual(parameters[-1].kind, inspect.Parameter.KEYWORD_ONLY)
            self.assertIsNone(parameters[-1].default)
            self.assertRaises(TypeError, asked, PLANK, WEIGHTS, *FUNCTIONS[asked], (0, 1, 2))

    def test_each_is_defined_where_it_is_listed(self):
        for module, names in ((loads, "borne bend_at boards holds"), (falls, "standing givings row_fault why is_why"),
                              (trees, "tree is_tree how_many ahead row_at number_of soonest no_sooner is_no_sooner")):
            for name in names.split():
                self.assertEqual(getattr(module, name).__module__, module.__name__)

    def test_no_lot_told_is_all_props(self):
        for asked, told in FUNCTIONS.items():
            everything = asked(PLANK, WEIGHTS, *told, lot=(0, 1, 2))
            self.assertEqual(asked(PLANK, WEIGHTS, *told), everything, asked)
            self.assertEqual(asked(PLANK, WEIGHTS, *told, lot=None), everything, asked)


class Weights(unittest.TestCase):
    def refused_at(self, asked, weights, **named):
        return field_refused(self, NoWeights, asked, PLANK, weights, *FUNCTIONS[asked], **named).at

    def test_what_is_no_list(self):
        for asked in FUNCTIONS:
            for thing in NO_WEIGHTS:
                self.assertEqual(self.refused_at(asked, thing), -1)

    def test_the_place_of_the_first_that_is_none(self):
        for asked in FUNCTIONS:
            for thing in odd_things() + [0, [], [(1, 1), (1, 1)], ((1, 1),), ((1, 1), (1, 1), (1, 1)), {1: 1, 2: 2}]:
                self.assertEqual(self.refused_at(asked, [thing]), 0)
                self.assertEqual(self.refused_at(asked, [WEIGHTS[0], thing]), 1)
                self.assertEqual(self.refused_at(asked, WEIGHTS + [thing, thing]), 5)

    def test_no_places_of_weights(self):
        for thing in no_fractions_from_nought() + [(11, 1), (21, 2), (10 ** 40 + 1, 10 ** 39), (-1, 10 ** 39)]:
            self.assertEqual(self.refused_at(loads.borne, [WEIGHTS[0], (thing, (1, 1)), WEIGHTS[1]]), 1)

    def test_no_weights_at_places(self):
        for thing in no_fractions() + [(0, 1), (-1, 1), (-1, 10 ** 39)]:
            self.assertEqual(self.refused_at(loads.borne, [WEIGHTS[0], ((1, 1), thing), WEIGHTS[1]]), 1)

    def test_weights_that_are_just_such(self):
        for weights in ([], [((0, 1), (1, 1))], [((10, 1), (1, 1))], [((10 ** 40 - 1, 10 ** 39), (1, 10 ** 39))],
                        [((5, 1), (1, 1))] * 3, [((1, 10 ** 39), (10 ** 40 - 1, 1)), ((9, 1), (1, 1)), ((1, 2), (1, 7))],
                        WEIGHTS * 4):
            for asked in FUNCTIONS:
                # Behind weights that are some stands the refusal of the lot.
                self.assertRaises(NoLot, asked, PLANK, weights, *FUNCTIONS[asked], lot=[])
            self.assertEqual(len(loads.borne(PLANK, weights)), 5)

    def test_the_length_is_the_planks_own(self):
        for length in (2, 3, 1000):
            plank = Plank(length, [])
            self.assertEqual(len(loads.borne(plank, [((length, 1), (1, 1))])), 2)
            self.assertRaises(NoWeights, loads.borne, plank, [((length * 3 + 1, 3), (1, 1))])

    def test_ahead_of_all_others(self):
        for asked, told in FUNCTIONS.items():
            for lot in ((0, 1), (5,), [0], Quarrelsome()):
                self.assertEqual(self.refused_at(asked, None, lot=lot), -1)
            wrong = [Quarrelsome() for _ in told]
            self.assertEqual(field_refused(self, NoWeights, asked, PLANK, [None], *wrong, lot=[1]).at, 0)


class Lots(unittest.TestCase):
    def test_what_is_no_lot(self):
        for asked, told in FUNCTIONS.items():
            for thing in NO_LOTS:
                field_refused(self, NoLot, asked, PLANK, WEIGHTS, *told, lot=thing)

    def test_ahead_of_what_is_asked_for(self):
        for asked, told in FUNCTIONS.items():
            wrong = [Quarrelsome() for _ in told]
            for thing in NO_LOTS:
                field_refused(self, NoLot, asked, PLANK, WEIGHTS, *wrong, lot=thing)

    def test_lots_that_are_some(self):
        for lot in ((), (0,), (1,), (2,), (0, 1), (0, 2), (1, 2), (0, 1, 2)):
            self.assertEqual([rest for rest, _ in loads.borne(PLANK, WEIGHTS, lot=lot)], [-1, *lot, 3])

    def test_a_plank_without_props_has_the_bare_lot_alone(self):
        bare = Plank(10, [])
        self.assertEqual(falls.standing(bare, WEIGHTS, lot=()), ())
        self.assertEqual(falls.standing(bare, WEIGHTS), ())
        self.assertRaises(NoLot, falls.standing, bare, WEIGHTS, lot=(0,))


class Props(unittest.TestCase):
    def test_what_is_no_prop_of_the_lot(self):
        for asked in WITH_PROP:
            for thing in NO_PROPS:
                refusal = field_refused(self, NoProp, asked, PLANK, WEIGHTS, thing, *FUNCTIONS[asked][1:])
                self.assertIs(refusal.prop, thing)

    def test_a_prop_that_is_not_of_the_lot(self):
        for asked in WITH_PROP:
            for prop, lot in ((0, ()), (0, (1, 2)), (1, (0, 2)), (2, (0, 1))):
                refusal = field_refused(self, NoProp, asked, PLANK, WEIGHTS, prop, *FUNCTIONS[asked][1:], lot=lot)
                self.assertEqual(refusal.prop, prop)

    def test_ahead_of_what_stands_behind(self):
        for asked in WITH_PROP:
            wrong = [Quarrelsome() for _ in FUNCTIONS[asked][1:]]
            self.assertEqual(field_refused(self, NoProp, asked, PLANK, WEIGHTS, 3, *wrong).prop, 3)

    def test_all_is_refused_under_the_base(self):
        self.assertRaises(FallError, falls.why, PLANK, WEIGHTS, 3)


class BehindThem(unittest.TestCase):
    def test_no_place(self):
        for thing in no_fractions_from_nought() + [(11, 1), (10 ** 40 + 1, 10 ** 39), 3]:
            for lot in (None, (), (1,)):
                refusal = field_refused(self, NoPlace, loads.bend_at, PLANK, WEIGHTS, thing, lot=lot)
                self.assertIs(refusal.place, thing)

    def test_no_rest(self):
        for asked in (trees.tree, trees.is_tree):
            behind = FUNCTIONS[asked][2:]
            for thing in odd_things() + [-2, 4, 1, 10 ** 50, (0,), [], "0"]:
                lot = (0, 2)
                for other in (thing, 3, -1, 0, None, Quarrelsome()):
                    refusal = field_refused(self, NoRest, asked, PLANK, WEIGHTS, thing, other, *behind, lot=lot)
                    self.assertIs(refusal.rest, thing)
                for other in (-1, 0, 2, 3):
                    refusal = field_refused(self, NoRest, asked, PLANK, WEIGHTS, other, thing, *behind, lot=lot)
                    self.assertIs(refusal.rest, thing)

    def test_a_right_rest_that_is_not_above_the_left_one(self):
        for asked in (trees.tree, trees.is_tree):
            for left in range(-1, 4):
                for right in range(-1, left + 1):
                    refusal = field_refused(self, NoRest, asked, PLANK, WEIGHTS, left, right, *FUNCTIONS[asked][2:])
                    self.assertEqual(refusal.rest, right)

    def test_no_number_of_givings(self):
        for asked in (trees.no_sooner, trees.is_no_sooner):
            for thing in odd_things() + [0, -1, -10 ** 50, (1,), [1], (1, 1)]:
                field_refused(self, NoNumber, asked, PLANK, WEIGHTS, 1, thing, *FUNCTIONS[asked][2:])
                field_refused(self, NoNumber, asked, PLANK, WEIGHTS, 1, thing, *FUNCTIONS[asked][2:], lot=(1,))

    def test_no_number_of_a_row(self):
        many = trees.how_many(PLANK, WEIGHTS)
        for thing in odd_things() + [many, many + 1, -1, 10 ** 50, (0,), [0], (0, 1)]:
            field_refused(self, NoNumber, trees.row_at, PLANK, WEIGHTS, thing)
            field_refused(self, NoNumber, trees.row_at, PLANK, WEIGHTS, thing, lot=())

    def test_no_givings(self):
        for thing in odd_things() + [(0, 1, 2), "012", [0, 0, 1], [3], [True], [None], [[0]], [0, 1, 2, 2], {0: 1}]:
            self.assertEqual(field_refused(self, NoGivings, trees.number_of, PLANK, WEIGHTS, thing).fault, ("form",))


class NothingIsKept(unittest.TestCase):
    def test_what_is_handed_in_stays_as_it_was(self):
        for asked, told in FUNCTIONS.items():
            weights, things = copy.deepcopy(WEIGHTS), copy.deepcopy(told)
            asked(PLANK, weights, *things, lot=(0, 1, 2))
            self.assertEqual((weights, things), (WEIGHTS, told))
        self.assertEqual(PLANK, Plank(10, [(2, (0, 1)), (5, (1, 2)), (8, (0, 1))], bend=(3, 1)))

    def test_asked_again_the_same_is_told_though_what_was_told_is_changed(self):
        for asked, told in FUNCTIONS.items():
            first = asked(PLANK, WEIGHTS, *told)
            was = copy.deepcopy(first)
            for one in [first, *first] if isinstance(first, (list, tuple)) else []:
                if isinstance(one, list):
                    one.append("changed")
            self.assertEqual(asked(PLANK, WEIGHTS, *told), was)

    def test_a_list_of_weights_that_is_changed_later(self):
        weights = copy.deepcopy(WEIGHTS)
        told = loads.borne(PLANK, weights)
        was = copy.deepcopy(told)
        weights.clear()
        self.assertEqual(told, was)
        self.assertEqual([on for _, on in loads.borne(PLANK, weights)], [(0, 1)] * 5)

    def test_a_row_that_is_refused_is_told_by_its_fault_alone(self):
        row = [0, 1]
        fault = field_refused(self, NoGivings, trees.number_of, PLANK, WEIGHTS, row).fault
        row.append(2)
        self.assertEqual(fault, ("more", 2))
        self.assertEqual(trees.number_of(PLANK, WEIGHTS, row), 0)

    def test_lists_that_are_told_are_new_ones(self):
        lists = [(loads.borne, []), (loads.boards, []), (falls.givings, []), (trees.row_at, [0]), (falls.why, [1]),
                 (trees.soonest, [1]), (trees.no_sooner, [1, 1])]
        for plank in (PLANK, PLANK.strengthened([(9, 1)] * 3)):
            for asked, told in lists:
                one, other = asked(plank, WEIGHTS, *told), asked(plank, WEIGHTS, *told)
                if one and one[0] == "falls":
                    one, other = one[1], other[1]
                if type(one) is list:
                    self.assertIsNot(one, other)
                else:
                    self.assertIn(one, (None, ("stands", (0, 1, 2))))

    def test_a_row_and_papers_that_are_judged_may_be_changed_later(self):
        row = [0, 1]
        papers = ("falls", row)
        self.assertIs(falls.is_why(PLANK, WEIGHTS, 1, papers), True)
        row.append(2)
        self.assertIs(falls.is_why(PLANK, WEIGHTS, 1, papers), False)
        self.assertIs(falls.is_why(PLANK, WEIGHTS, 2, papers), True)


if __name__ == "__main__":
    unittest.main()
