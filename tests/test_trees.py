"""Trees of last ones: what all goes between two rests, and what stays [14, 15]."""

import unittest
from itertools import combinations

import plainly
from cases import cases_with_lots, falling_case, great_case
from odd import Agreeable, Quarrelsome, odd_things
from plainly import between, everything, rests_of
from propfall.planks import Plank
from propfall.trees import is_tree, tree

# Prop 1 goes while all stand, 2 only behind it, 0 and 3 stand.
PLANK = Plank(10, [(2, (9, 1)), (4, (1, 2)), (6, (5, 4)), (8, (9, 1))])
WEIGHTS = [((4, 1), (1, 1)), ((6, 1), (1, 1)), ((8, 1), (1, 1))]
RIGHT = (2, (1, None, None), None)


def leaf(prop):
    return (prop, None, None)


def things_of(trees):
    """Tell things that look like trees: each tree with one thing in it otherwise."""
    things = []
    for one in trees:
        if one is None:
            continue
        last, before, behind = one
        things += [last, (last,), (last, before), [last, before, behind], (*one, None), (last, behind, before),
                   (before, last, behind), (last, (), behind), (last, before, ()), (last, False, behind),
                   (last, before, 0), (None, before, behind), (True, before, behind), (float(last), before, behind),
                   (Agreeable(), before, behind), (Quarrelsome(), before, behind), (last, Agreeable(), behind),
                   (last, before, Quarrelsome()), (last, one, behind), (last, before, one), (last, before, leaf(last)),
                   (-1, before, behind), (10 ** 50, before, behind), (str(last), before, behind)]
        things += [(last, thing, behind) for thing in (None, leaf(0), leaf(1), leaf(last - 1))]
        things += [(last + by, before, behind) for by in (-2, -1, 1, 2)]
    return things


def looks_like(thing, trees):
    """Tell whether a thing is one of the trees; its parts may be such that can't be compared."""
    if thing is None or type(thing) is not tuple or len(thing) != 3 or type(thing[0]) is not int:
        return thing is None and None in trees
    halves = [(one[1], one[2]) for one in trees if one is not None and one[0] == thing[0]]
    return any(looks_like(thing[1], [before]) and looks_like(thing[2], [behind]) for before, behind in halves)


class Told(unittest.TestCase):
    def test_all_go(self):
        self.assertEqual(tree(PLANK, WEIGHTS, 0, 3), ("goes", RIGHT))
        self.assertEqual(tree(PLANK, WEIGHTS, 0, 2), ("goes", leaf(1)))
        self.assertEqual(tree(PLANK, WEIGHTS, 0, 2, lot=(0, 1, 2)), ("goes", leaf(1)))
        self.assertEqual(tree(PLANK, WEIGHTS, 0, 3, lot=(0, 2, 3)), ("goes", leaf(2)))

    def test_nothing_between(self):
        for left, right in ((-1, 0), (0, 1), (1, 2), (2, 3), (3, 4)):
            self.assertEqual(tree(PLANK, WEIGHTS, left, right), ("goes", None))
        self.assertEqual(tree(PLANK, WEIGHTS, -1, 4, lot=()), ("goes", None))
        self.assertEqual(tree(PLANK, WEIGHTS, 0, 3, lot=(0, 3)), ("goes", None))
        self.assertEqual(tree(Plank(10, []), WEIGHTS, -1, 0), ("goes", None))

    def test_some_stay(self):
        self.assertEqual(tree(PLANK, WEIGHTS, -1, 4), ("stays", (0, 3)))
        self.assertEqual(tree(PLANK, WEIGHTS, 1, 3), ("stays", (2,)))
        self.assertEqual(tree(PLANK, WEIGHTS, -1, 3), ("stays", (0,)))
        self.assertEqual(tree(PLANK, WEIGHTS, 0, 4, lot=(0, 1, 3)), ("stays", (3,)))
        self.assertEqual(tree(PLANK, [], -1, 4), ("stays", (0, 1, 2, 3)))

    def test_the_told_rests_stand_whatever_lies_on_them(self):
        plank, weights = falling_case()
        self.assertEqual(tree(plank, weights, 3, 5), ("goes", leaf(4)))
        self.assertEqual(tree(plank, weights, 4, 5), ("goes", None))
        # Alone between 1 and 3 the second prop bears what lies on it, though 1 can't.
        self.assertEqual(tree(PLANK, WEIGHTS, 1, 4, lot=(1, 2)), ("goes", leaf(2)))
        self.assertEqual(tree(PLANK, WEIGHTS, 1, 3, lot=(1, 2, 3)), ("stays", (2,)))

    def check(self, plank, weights, lot, left, right):
        side, paper = tree(plank, weights, left, right, lot=lot)
        inner = between(lot, left, right)
        rows = plainly.whole_rows(plank, weights, inner, left, right)
        self.assertEqual(side, "goes" if any(len(row) == len(inner) for row in rows) else "stays")
        if side == "goes":
            self.go_along(plank, weights, inner, left, right, paper)
            self.assertIs(is_tree(plank, weights, left, right, paper, lot=lot), True)
        else:
            self.assertGreater(len(paper), 0)
            self.assertEqual({tuple(prop for prop in inner if prop not in row) for row in rows}, {paper})
        return side

    def go_along(self, plank, weights, inner, left, right, paper):
        """Look at a tree from the top down: each last one is overlaid as just it and both rests stand."""
        if not inner:
            self.assertIsNone(paper)
            return
        self.assertIs(type(paper), tuple)
        last, before, behind = paper
        self.assertIn(last, inner)
        self.assertEqual(plainly.overlaid(plank, weights, (last,), left, right), [last])
        self.go_along(plank, weights, between(inner, left, last), left, last, before)
        self.go_along(plank, weights, between(inner, last, right), last, right, behind)

    def test_by_going_along_it(self):
        sides = []
        for plank, weights, lot in cases_with_lots(many=40, seed=21):
            for left, right in combinations(rests_of(plank, lot), 2):
                sides.append(self.check(plank, weights, lot, left, right))
        self.assertGreater(sides.count("goes"), 100)
        self.assertGreater(sides.count("stays"), 100)

    def test_twelve_props(self):
        for plank, weights in (great_case(), falling_case()):
            for left, right in combinations(range(-1, 13), 2):
                side, paper = tree(plank, weights, left, right)
                self.assertEqual(side, "goes")
                self.go_along(plank, weights, between(everything(plank), left, right), left, right, paper)
        plank, weights = great_case((99, 1))
        self.assertEqual(tree(plank, weights, -1, 12), ("stays", everything(plank)))


class Judged(unittest.TestCase):
    def test_right_trees(self):
        self.assertIs(is_tree(PLANK, WEIGHTS, 0, 3, RIGHT), True)
        self.assertIs(is_tree(PLANK, WEIGHTS, 0, 2, leaf(1)), True)
        self.assertIs(is_tree(PLANK, WEIGHTS, 2, 3, None), True)
        self.assertIs(is_tree(PLANK, WEIGHTS, 0, 3, leaf(2), lot=(0, 2, 3)), True)
        plank, weights = falling_case()
        for one in ((0, None, (1, None, leaf(2))), (1, leaf(0), leaf(2)), (2, (0, None, leaf(1)), None)):
            self.assertIs(is_tree(plank, weights, -1, 3, one), True)

    def test_wrong_trees(self):
        for thing in (None, leaf(1), leaf(2), (1, None, leaf(2)), (2, None, leaf(1)), (2, leaf(1), leaf(1)),
                      (2, leaf(0), None), (2, leaf(1), leaf(3)), (2, RIGHT, None), [2, leaf(1), None],
                      (2, [1, None, None], None), (2, leaf(True), None), (2, (1, None), None), (2, leaf(1)), (),
                      (2, leaf(1), ()), (2, leaf(1), False), ("goes", RIGHT), (2, Agreeable(), None),
                      (Agreeable(), leaf(1), None), (2, leaf(1), Quarrelsome()), (2, (Quarrelsome(), None, None), None)):
            self.assertIs(is_tree(PLANK, WEIGHTS, 0, 3, thing), False)
        self.assertIs(is_tree(PLANK, WEIGHTS, 0, 3, RIGHT, lot=(0, 2, 3)), False)
        self.assertIs(is_tree(PLANK, WEIGHTS, 1, 3, leaf(2)), False)

    def test_nothing_else_is_one_where_nothing_is_between(self):
        for thing in odd_things() + [0, [], leaf(0), leaf(1), [None]]:
            self.assertIs(is_tree(PLANK, WEIGHTS, 0, 1, thing), thing is None)

    def test_none_where_some_stay(self):
        for thing in odd_things() + [0, [], leaf(2), leaf(1), (0, 3), ("stays", (0, 3))]:
            self.assertIs(is_tree(PLANK, WEIGHTS, 1, 3, thing), False)
            self.assertIs(is_tree(PLANK, WEIGHTS, -1, 4, thing), False)

    def test_a_tree_of_great_depth(self):
        thing = None
        for _ in range(100000):
            thing = (2, thing, None)
        self.assertIs(is_tree(PLANK, WEIGHTS, 0, 3, thing), False)
        while thing:
            thing = thing[1]

    def test_all_trees_of_small_planks_and_what_looks_like_them(self):
        right, wrong = 0, 0
        for plank, weights, lot in cases_with_lots(many=25, seed=22):
            for left, right_rest in combinations(rests_of(plank, lot), 2):
                trees = plainly.all_trees(plank, weights, lot, left, right_rest)
                for one in trees:
                    right += 1
                    self.assertIs(is_tree(plank, weights, left, right_rest, one, lot=lot), True)
                for thing in things_of(trees) + [None, leaf(0), leaf(1), leaf(2)]:
                    told = is_tree(plank, weights, left, right_rest, thing, lot=lot)
                    wrong += not told
                    self.assertIs(told, looks_like(thing, trees))
        self.assertGreater(right, 100)
        self.assertGreater(wrong, 1000)


if __name__ == "__main__":
    unittest.main()
