"""The fewest givings by which a prop goes, and the papers that it goes no sooner [18, 19]."""

import unittest

import plainly
from cases import cases_with_lots, falling_case, great_case
from odd import Agreeable, Quarrelsome, odd_things
from plainly import between, ends_around, everything, is_row, lots_within, reasons, rests_of
from propfall.falls import is_why
from propfall.planks import Plank
from propfall.trees import is_no_sooner, no_sooner, soonest

# While all stand just prop 1 is overlaid; then 2, then 3; 0 stands.
PLANK = Plank(10, [(2, (9, 1)), (4, (1, 2)), (6, (5, 4)), (8, (3, 2))])
WEIGHTS = [((4, 1), (1, 1)), ((6, 1), (1, 1)), ((8, 1), (1, 1))]
ODD_PARTS = [None, True, False, 1.0, "", "bears", ("bears",), ["bears"], [], (), {}, set(), Agreeable(), Quarrelsome()]


def otherwise(papers):
    """Tell papers with one thing otherwise than in right ones, all of them wrong."""
    wrong = [papers + [papers[-1]], [papers[0]] + papers, tuple(papers), dict(enumerate(papers)), {}]
    for at, (left, right, reason) in enumerate(papers):
        ahead, behind = papers[:at], papers[at + 1:]
        parts = [(right, left, reason), (left, right), (left, right, reason, None), [left, right, reason],
                 (left, right, *reason), (left - 1, right, reason), (left + 1, right, reason), (left, right - 1, reason),
                 (left, right + 1, reason), (float(left), right, reason), (left, float(right), reason),
                 (Agreeable(), right, reason), (left, Agreeable(), reason), (Quarrelsome(), right, reason),
                 (left, Quarrelsome(), reason), (left, right, (*reason, ())), (left, right, (*reason, None)),
                 (left, right, list(reason)), (left, right, ("left", ())), (left, right, ("right", ())),
                 (left, right, ("BEARS",)), (left, right, ("bears", ())), (left, right, ("left",)),
                 (left, right, ("right",)), (left, right, (Agreeable(),)), (left, right, (b"bears",))]
        parts += [(left, right, thing) for thing in ODD_PARTS if type(thing) is not tuple or not thing]
        wrong += [ahead + [part] + behind for part in parts + ODD_PARTS]
        wrong.append(ahead + behind)
        wrong.append(ahead + [papers[at]] + papers[at:])
        if behind:
            wrong.append(ahead + [behind[0], papers[at]] + behind[1:])
    return wrong


class Soonest(unittest.TestCase):
    def test_a_chain(self):
        self.assertEqual(soonest(PLANK, WEIGHTS, 1), ("falls", [1]))
        self.assertEqual(soonest(PLANK, WEIGHTS, 2), ("falls", [1, 2]))
        self.assertEqual(soonest(PLANK, WEIGHTS, 3), ("falls", [1, 2, 3]))
        self.assertEqual(soonest(PLANK, WEIGHTS, 0), ("stands", (0,)))
        self.assertEqual(soonest(PLANK, WEIGHTS, 3, lot=(0, 3)), ("falls", [3]))

    def test_those_that_needn_t_go_are_left(self):
        plank, weights = falling_case()
        for prop in range(12):
            self.assertEqual(soonest(plank, weights, prop), ("falls", [prop]))

    def test_against_the_fewest_by_going_through_all_ways(self):
        found = set()
        for plank, weights, lot in cases_with_lots(most_props=5, many=60, seed=41):
            for prop in lot:
                side, paper = soonest(plank, weights, prop, lot=lot)
                many = plainly.fewest(plank, weights, lot, prop)
                found.add(many)
                if many is None:
                    self.assertEqual(side, "stands")
                    self.assertTrue(paper in lots_within(lot) and prop in paper)
                    self.assertEqual(plainly.overlaid(plank, weights, paper), [])
                else:
                    self.assertEqual((side, len(paper), paper[-1]), ("falls", many, prop))
                    self.assertIs(type(paper), list)
                    self.assertTrue(is_row(plank, weights, lot, paper))
                    self.is_all_between_two_rests(plank, lot, paper)
                self.assertIs(is_why(plank, weights, prop, (side, paper), lot=lot), True)
        self.assertTrue({None, 1, 2, 3, 4} <= found, found)

    def is_all_between_two_rests(self, plank, lot, row):
        rests = rests_of(plank, lot)
        self.assertIn(tuple(sorted(row)), [between(lot, left, right) for left in rests for right in rests])

    def test_twelve_props(self):
        plank, weights = great_case((3, 2))
        for prop in range(12):
            side, row = soonest(plank, weights, prop)
            self.assertEqual((side, row[-1]), ("falls", prop))
            self.assertTrue(is_row(plank, weights, everything(plank), row))
            self.assertIsNone(no_sooner(plank, weights, prop, len(row)))
            if len(row) > 1:
                papers = no_sooner(plank, weights, prop, len(row) - 1)
                self.assertIs(is_no_sooner(plank, weights, prop, len(row) - 1, papers), True)
        plank = plank.strengthened([(99, 1)] * 12)
        self.assertEqual(len(no_sooner(plank, weights, 5, 12)), 6 * 7)


class NoSooner(unittest.TestCase):
    def test_a_chain(self):
        self.assertEqual(no_sooner(PLANK, WEIGHTS, 3, 1), [(2, 4, ("bears",))])
        self.assertEqual(no_sooner(PLANK, WEIGHTS, 3, 2), [(1, 4, ("bears",)), (2, 4, ("bears",))])
        self.assertIsNone(no_sooner(PLANK, WEIGHTS, 3, 3))
        self.assertIsNone(no_sooner(PLANK, WEIGHTS, 1, 1))
        self.assertEqual(no_sooner(PLANK, WEIGHTS, 0, 1), [(-1, 1, ("bears",))])

    def test_of_many_more_than_there_are(self):
        for many in (4, 5, 12, 10 ** 50):
            papers = no_sooner(PLANK, WEIGHTS, 0, many)
            self.assertEqual([ends[:2] for ends in papers], [(-1, 1), (-1, 2), (-1, 3), (-1, 4)])
            self.assertIs(is_no_sooner(PLANK, WEIGHTS, 0, many, papers), True)
            self.assertIsNone(no_sooner(PLANK, WEIGHTS, 3, many))

    def test_parts_that_stay(self):
        # Prop 1 would be overlaid if it stood alone, but those beside it stay.
        plank = Plank(8, [(2, (9, 1)), (4, (3, 2)), (6, (9, 1))])
        weights = [((2, 1), (1, 1)), ((4, 1), (1, 1)), ((6, 1), (1, 1))]
        self.assertEqual(no_sooner(plank, weights, 1, 3), [
            (-1, 2, ("bears",)), (-1, 3, ("left", (0,))), (0, 2, ("bears",)), (0, 3, ("bears",))])
        right = no_sooner(plank, weights, 1, 3)
        right[1] = (-1, 3, ("right", (2,)))
        self.assertIs(is_no_sooner(plank, weights, 1, 3, right), True)
        plank = Plank(8, [(2, (0, 1)), (4, (3, 2)), (6, (9, 1))])
        self.assertEqual(no_sooner(plank, weights, 1, 3), [
            (-1, 2, ("bears",)), (-1, 3, ("right", (2,))), (0, 2, ("bears",)), (0, 3, ("bears",))])

    def test_none_from_the_least_number_on_and_right_papers_below(self):
        words = set()
        for plank, weights, lot in cases_with_lots(most_props=5, many=60, seed=42):
            for prop in lot:
                least = plainly.fewest(plank, weights, lot, prop)
                for many in range(1, len(lot) + 2):
                    papers = no_sooner(plank, weights, prop, many, lot=lot)
                    self.assertEqual(papers is None, least is not None and many >= least)
                    if papers is not None:
                        words |= {reason[0] for _, _, reason in papers}
                        self.look_at(plank, weights, lot, prop, many, papers)
        self.assertEqual(words, {"bears", "left", "right"})

    def look_at(self, plank, weights, lot, prop, many, papers):
        self.assertIs(type(papers), list)
        self.assertEqual([paper[:2] for paper in papers], ends_around(plank, lot, prop, many))
        for left, right, reason in papers:
            self.assertIn(reason, reasons(plank, weights, lot, left, prop, right))
        self.assertIs(is_no_sooner(plank, weights, prop, many, papers, lot=lot), True)


class IsNoSooner(unittest.TestCase):
    def test_all_right_reasons_and_all_other_ones(self):
        right, wrong = 0, 0
        for plank, weights, lot in cases_with_lots(many=90, seed=43):
            for prop in lot:
                papers = no_sooner(plank, weights, prop, 4, lot=lot)
                every = [("bears",)] + [(word, some) for word in ("left", "right") for some in lots_within(lot)]
                for at, (left, right_rest, _) in enumerate(papers or []):
                    for reason in every:
                        other = papers[:at] + [(left, right_rest, reason)] + papers[at + 1:]
                        told = is_no_sooner(plank, weights, prop, 4, other, lot=lot)
                        self.assertIs(told, reason in reasons(plank, weights, lot, left, prop, right_rest))
                        right, wrong = right + told, wrong + (not told)
        self.assertGreater(right, 100)
        self.assertGreater(wrong, 100)

    def test_one_thing_otherwise(self):
        seen = 0
        for plank, weights, lot in cases_with_lots(many=25, seed=44) + [(PLANK, WEIGHTS, (0, 1, 2, 3))]:
            for prop in lot:
                for many in (1, 2, 3):
                    papers = no_sooner(plank, weights, prop, many, lot=lot)
                    if papers is None:
                        continue
                    seen += 1
                    for thing in otherwise(papers):
                        self.assertIs(is_no_sooner(plank, weights, prop, many, thing, lot=lot), False)
        self.assertGreater(seen, 30)

    def test_papers_of_another_many_prop_or_lot(self):
        papers = no_sooner(PLANK, WEIGHTS, 3, 2)
        self.assertIs(is_no_sooner(PLANK, WEIGHTS, 3, 2, papers), True)
        for many in (1, 3, 4):
            self.assertIs(is_no_sooner(PLANK, WEIGHTS, 3, many, papers), False)
        self.assertIs(is_no_sooner(PLANK, WEIGHTS, 2, 2, papers), False)
        self.assertIs(is_no_sooner(PLANK, WEIGHTS, 3, 2, papers, lot=(1, 2, 3)), True)
        self.assertIs(is_no_sooner(PLANK, WEIGHTS, 3, 2, papers, lot=(0, 2, 3)), False)

    def test_no_papers_where_it_goes(self):
        for papers in ([], [(2, 4, ("bears",))], [(0, 4, ("bears",)), (1, 4, ("bears",)), (2, 4, ("bears",))],
                       [(0, 4, ("left", (1, 2))), (1, 4, ("bears",)), (2, 4, ("bears",))],
                       [(0, 4, ("left", (2,))), (1, 4, ("bears",)), (2, 4, ("bears",))],
                       [(0, 4, ("left", (1,))), (1, 4, ("bears",)), (2, 4, ("bears",))]):
            self.assertIs(is_no_sooner(PLANK, WEIGHTS, 3, 3, papers), False)

    def test_a_lot_that_stays_while_rest_and_prop_stand_alone(self):
        plank = Plank(8, [(2, (9, 1)), (4, (3, 2)), (6, (9, 1))])
        weights = [((2, 1), (1, 1)), ((4, 1), (1, 1)), ((6, 1), (1, 1))]
        right = no_sooner(plank, weights, 1, 3)
        for reason in (("left", ()), ("left", (1,)), ("left", (2,)), ("left", (0, 1)), ("left", (0, 2)), ("left", (0, 0)),
                       ("right", (0,)), ("right", ()), ("left", [0]), ("left", (False,)), ("left", (0.0,)),
                       ("left", ((0,),)), ("left", 0), ("left", Agreeable()), ("left", (Agreeable(),)), ("bears",),
                       ("left", (-1,)), ("right", (3,)), ("left", "0"), (Agreeable(), (0,)), (None, (0,)),
                       (Quarrelsome(), (0,)), ("stays", (0,))):
            wrong = right[:1] + [(-1, 3, reason)] + right[2:]
            self.assertIs(is_no_sooner(plank, weights, 1, 3, wrong), False)

    def test_of_anything(self):
        for thing in odd_things() + [0, [], [None], [[]], [()], [Quarrelsome()], [Agreeable()], [0, 1], "bears"]:
            self.assertIs(is_no_sooner(PLANK, WEIGHTS, 3, 1, thing), False)
            self.assertIs(is_no_sooner(PLANK, WEIGHTS, 1, 1, thing), False)


if __name__ == "__main__":
    unittest.main()
