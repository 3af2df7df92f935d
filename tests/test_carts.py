"""Carts that roll over a plank, once, again and again, and for ever [34, 35, 36, 37, 38, 39]."""

import random
import unittest
from fractions import Fraction

import plainly
import rolling
from cases import cases, great_case, tight_cases
from odd import Agreeable, Quarrelsome, odd_things
from plainly import everything, lots_within, pair
from propfall.carts import again_and_again, fault_of, for_ever, holds_to, is_for_ever, rolled
from propfall.falls import standing
from propfall.planks import Plank
from rolling import TINY, a_cart, cases_with_carts, with_carts

PLANK = Plank(10, [(2, (1, 1)), (5, (2, 1)), (8, (1, 1))])
CART = [((0, 1), (3, 2)), ((2, 1), (1, 1))]
OVER = {"start": (0, 1), "goal": (10, 1)}
BACK = {"start": (10, 1), "goal": (0, 1)}
ONE = [((0, 1), (1, 1))]


def some_planks(seed, many=25, most_props=4):
    """Tell planks whose props bear somewhat more than the weights."""
    found = cases(many, most_props, seed) + tight_cases(many, most_props, seed)
    return [(plank.strengthened([pair(Fraction(*strength) + at % 3) for _, strength in plank.props()]), weights)
            for at, (plank, weights) in enumerate(found)]


def told_of(case, lot=None):
    plank, weights, cart, start, goal = case
    return rolled(plank, weights, cart=cart, start=start, goal=goal, lot=lot)


class Rolled(unittest.TestCase):
    def test_a_plank(self):
        self.assertEqual(rolled(PLANK, [], cart=CART, **OVER), ((), [((4, 3), (0,)), ((24, 5), (1, 2))], ()))
        self.assertEqual(rolled(PLANK, [], cart=CART, **BACK), ((), [((10, 1), (2,)), ((23, 5), (0,))], (1,)))

    def test_a_strength_that_is_just_reached_holds_at_the_place(self):
        plank = Plank(10, [(5, (1, 1))])
        self.assertEqual(rolled(plank, [], cart=ONE, **OVER), ((), [], (0,)))
        heavy = [((0, 1), (2, 1))]
        for way, place in ((OVER, (5, 2)), (BACK, (15, 2))):
            self.assertEqual(rolled(plank, [], cart=heavy, **way), ((), [(place, (0,))], ()))
            # Up to there it stands; it goes on every longer way.
            self.assertEqual(rolled(plank, [], cart=heavy, start=way["start"], goal=place), ((), [], (0,)))
            farther = pair(Fraction(*place) + (TINY if way is OVER else -TINY))
            self.assertEqual(rolled(plank, [], cart=heavy, start=way["start"], goal=farther), ((), [(place, (0,))], ()))
            self.assertEqual(rolled(plank, [], cart=heavy, start=place, goal=farther), ((), [(place, (0,))], ()))
            self.assertEqual(rolled(plank, [], cart=heavy, start=place, goal=way["start"]), ((), [], (0,)))

    def test_put_at_start(self):
        plank = Plank(10, [(5, (1, 1))])
        heavy = [((0, 1), (2, 1))]
        for goal in ((5, 1), (0, 1), (10, 1)):
            self.assertEqual(rolled(plank, [], cart=heavy, start=(5, 1), goal=goal), ((0,), [], ()))
        self.assertEqual(rolled(plank, [], cart=heavy, start=(5, 2), goal=(5, 2)), ((), [], (0,)))
        self.assertEqual(rolled(Plank(10, []), [], cart=heavy, **OVER), ((), [], ()))

    def test_axles_below_0_lie_on_nothing(self):
        plank = Plank(10, [(1, (1, 1))])
        cart = [((0, 1), (1, 10)), ((3, 1), (5, 1))]
        self.assertEqual(rolled(plank, [], cart=cart, start=(0, 1), goal=(3, 1)), ((), [], (0,)))
        self.assertEqual(rolled(plank, [], cart=cart, start=(0, 1), goal=(4, 1))[1][0][1], (0,))
        far = [((0, 1), (1, 10)), ((10 ** 39, 1), (10 ** 39, 1))]
        self.assertEqual(rolled(plank, [], cart=far, **OVER), ((), [], (0,)))

    def test_props_that_go_by_the_fall_of_others_are_told_with_them(self):
        plank = Plank(9, [(3, (1, 1)), (6, (1, 1))])
        weights = [((3, 1), (1, 1)), ((6, 1), (1, 1))]
        self.assertEqual(rolled(plank, weights, cart=ONE, start=(0, 1), goal=(9, 1)), ((), [((0, 1), (0, 1))], ()))
        self.assertEqual(rolled(plank, weights, cart=ONE, start=(9, 1), goal=(0, 1)), ((), [((9, 1), (0, 1))], ()))

    def test_from_a_lot_on(self):
        self.assertEqual(rolled(PLANK, [], cart=CART, lot=(), **OVER), ((), [], ()))
        self.assertEqual(rolled(PLANK, [], cart=CART, lot=(1,), **BACK), ((), [((6, 1), (1,))], ()))

    def test_against_going_from_place_to_place(self):
        seen = set()
        for plank, weights, cart, start, goal in cases_with_carts(some_planks(71), 71):
            for lot in (everything(plank), everything(plank)[1:]):
                told = rolled(plank, weights, cart=cart, start=start, goal=goal, lot=lot)
                right = rolling.rolled(plank, weights, cart, Fraction(*start), Fraction(*goal), lot)
                self.assertEqual(told, right)
                self.assertEqual((type(told), type(told[1])), (tuple, list))
                for _, gone in told[1]:
                    seen.add((goal[0] * start[1] > start[0] * goal[1], len(gone) > 1, len(told[1]) > 1))
        self.assertEqual(len(seen), 8, seen)

    def test_each_event_by_its_own_words(self):
        for plank, weights, cart, start, goal in cases_with_carts(some_planks(72), 72):
            put, events, left = told_of((plank, weights, cart, start, goal))
            step = rolling.step_on(Fraction(*start), Fraction(*goal))
            lot = standing(plank, with_carts(plank, weights, [cart], [Fraction(*start)]))
            self.assertEqual(sorted(put + lot), list(everything(plank)))
            for place, gone in events:
                self.assertNotEqual(place, goal)
                self.assertTrue(gone)
                at = Fraction(*place)
                self.assertEqual(standing(plank, with_carts(plank, weights, [cart], [at]), lot=lot), lot)
                lot = tuple(prop for prop in lot if prop not in gone)
                self.assertEqual(standing(plank, with_carts(plank, weights, [cart], [at + step]), lot=lot), lot)
            self.assertEqual(left, lot)

    def test_of_one_axle_the_next_standing_prop_ahead_begins(self):
        for plank, weights, cart, start, goal in cases_with_carts(some_planks(73), 73, most_axles=1):
            put, events, _ = told_of((plank, weights, cart, start, goal))
            lot = tuple(prop for prop in everything(plank) if prop not in put)
            for place, gone in events:
                ahead = [prop for prop in lot if (plank.place_of(prop) - Fraction(*place))
                         * rolling.step_on(Fraction(*start), Fraction(*goal)) > 0]
                self.assertIn(ahead[0 if Fraction(*start) < Fraction(*goal) else -1], gone)
                lot = tuple(prop for prop in lot if prop not in gone)

    def test_great_ones(self):
        chance = random.Random(74)
        plank, weights = great_case()
        on = plainly.laid(plank, weights, plainly.rests_of(plank, everything(plank)))
        more = [Fraction(chance.randrange(10 ** 39, 10 ** 40), 3 * 10 ** 39 + 1 + k) for k in range(12)]
        plank = plank.strengthened([pair((on[k] + more[k]).limit_denominator(10 ** 38)) for k in range(12)])
        cart = [(pair(Fraction(k * (10 ** 38 + 1), 10 ** 38)), pair(Fraction(10 ** 39 - k, 10 ** 39))) for k in range(4)]
        for start, goal in (((0, 1), (13, 1)), ((13, 1), (0, 1))):
            put, events, left = told_of((plank, weights, cart, start, goal))
            self.assertIsNone(fault_of(plank, weights, (put, events, left), cart=cart, start=start, goal=goal))
            lot = tuple(prop for prop in everything(plank) if prop not in put)
            for place, gone in events:
                at = with_carts(plank, weights, [cart], [Fraction(*place)])
                self.assertEqual(standing(plank, at, lot=lot), lot)
                lot = tuple(prop for prop in lot if prop not in gone)
            self.assertTrue(events)
            self.assertEqual(lot, left)


class HoldsTo(unittest.TestCase):
    def test_a_plank(self):
        self.assertEqual(holds_to(PLANK, [], cart=CART, **OVER), ((4, 3), 0))
        self.assertEqual(holds_to(PLANK, [], cart=CART, **BACK), ((10, 1), 2))
        self.assertEqual(holds_to(PLANK, [], cart=CART, start=(10, 1), goal=(10, 1)), None)
        self.assertEqual(holds_to(PLANK, [], cart=CART, start=(0, 1), goal=(4, 3)), None)
        self.assertEqual(holds_to(PLANK, [], cart=CART, start=(3, 2), goal=(3, 2)), ((3, 2), 0))
        self.assertEqual(holds_to(PLANK, [], cart=CART, lot=(), **OVER), None)

    def test_of_several_at_and_right_behind_the_place_the_least(self):
        # At 2 more lies on prop 1 than its strength at once, on prop 0 right behind.
        plank = Plank(9, [(3, (2, 3)), (6, (0, 1))])
        weights = [((6, 1), (1, 1))]
        self.assertEqual(holds_to(plank, weights, cart=ONE, start=(2, 1), goal=(3, 1)), ((2, 1), 0))
        self.assertEqual(holds_to(plank, weights, cart=ONE, start=(2, 1), goal=(2, 1)), ((2, 1), 1))
        self.assertEqual(holds_to(plank, weights, cart=ONE, start=(2, 1), goal=(1, 1)), ((2, 1), 1))

    def test_against_going_from_place_to_place(self):
        kinds = set()
        for plank, weights, cart, start, goal in cases_with_carts(some_planks(75), 75):
            for lot in lots_within(everything(plank))[::3] + [everything(plank)]:
                told = holds_to(plank, weights, cart=cart, start=start, goal=goal, lot=lot)
                met = rolling.first_met(plank, weights, cart, lot, Fraction(*start), Fraction(*goal))
                self.assertEqual(told, None if met is None else (pair(met[0]), min(met[1])))
                kinds.add((told is None, start == goal, told is not None and told[0] == start, len(met[1]) > 1 if met else 0))
        self.assertTrue(len(kinds) > 6, kinds)

    def test_no_lot_told_is_all_props(self):
        for plank, weights, cart, start, goal in cases_with_carts(some_planks(76, 8), 76):
            self.assertEqual(holds_to(plank, weights, cart=cart, start=start, goal=goal),
                             holds_to(plank, weights, cart=cart, start=start, goal=goal, lot=everything(plank)))


class FaultOf(unittest.TestCase):
    def fault(self, thing, **way):
        return fault_of(PLANK, [], thing, cart=CART, **(way or OVER))

    def test_what_is_told(self):
        for case in cases_with_carts(some_planks(77), 77):
            plank, weights, cart, start, goal = case
            told = told_of(case)
            self.assertIsNone(fault_of(plank, weights, told, cart=cart, start=start, goal=goal))
            told = told_of(case, lot=everything(plank)[:2])
            self.assertIsNone(fault_of(plank, weights, told, cart=cart, start=start, goal=goal, lot=everything(plank)[:2]))

    def test_no_such_form(self):
        first, second = ((4, 3), (0,)), ((24, 5), (1, 2))
        odd = odd_things() + [Agreeable(), Quarrelsome(), 0, [], [0]]
        things = odd + [((), [first, second]), ((), [first, second], (), ()), [(), [first, second], ()]]
        for thing in [one for one in odd if type(one) is not tuple] + [(3,), (0, 0), (1, 0), (True,), (0.0,), [0]]:
            things += [(thing, [first, second], ()), ((), [first, second], thing), ((), [first, ((24, 5), thing)], ()),
                       ((), [first, thing], ())]
            if type(thing) is not list or thing:
                things += [((), thing, ())]
        things += [((), [first, ((24, 5), ())], ()), ((), (first, second), ()), ((), [first, (24, 5)], ()),
                   ((), [first, [(24, 5), (1, 2)]], ()), ((), [first, ((48, 10), (1, 2))], ()), ((), [first, (5, (1, 2))], ()),
                   ((), [first, ((24, 5), (1, 2), ())], ()), ((), [first, ((24.0, 5), (1, 2))], ()),
                   ((), [(Agreeable(), (0,))], ()), ((), [(Quarrelsome(), Quarrelsome())], ()), ((3,), [first, second], ()),
                   ((), [first, second], (3,)), ((), [first, ((24, 5), (1, 3))], ())]
        for thing in things:
            self.assertEqual(self.fault(thing), ("form",), thing)

    def test_which_fault_is_due(self):
        first, second = ((4, 3), (0,)), ((24, 5), (1, 2))
        for thing, fault in ((((), [first, second], ()), None), (((0,), [first, second], ()), ("put",)),
                             (((0,), [], (0,)), ("put",)), (((0, 1, 2), [first], ()), ("put",)),
                             (((), [second, first], ()), ("event", 0)), (((), [second], ()), ("event", 0)),
                             (((), [((4, 3), (1,)), second], ()), ("event", 0)),
                             (((), [((5, 3), (0,)), second], ()), ("event", 0)),
                             (((), [((-4, 3), (0,)), second], ()), ("event", 0)),
                             (((), [first, ((24, 5), (1,))], (2,)), ("event", 1)),
                             (((), [first, first], ()), ("event", 1)), (((), [first, ((5, 1), (1, 2))], (0,)), ("event", 1)),
                             (((), [first, second, second], ()), ("event", 2)),
                             (((), [first, second, ((99, 1), (0,))], (0,)), ("event", 2)),
                             (((), [first], ()), ("more",)), (((), [first], (1, 2)), ("more",)), (((), [], ()), ("more",)),
                             (((), [first, second], (0,)), ("left",)), (((), [first, second], (0, 1, 2)), ("left",))):
            self.assertEqual(self.fault(thing), fault)

    def test_any_props_of_the_plank_are_let_by(self):
        told = fault_of(PLANK, [], ((1,), [], (2,)), cart=CART, lot=(0,), **OVER)
        self.assertEqual(told, ("put",))
        told = fault_of(PLANK, [], ((), [((4, 3), (1,))], (2,)), cart=CART, lot=(0,), **OVER)
        self.assertEqual(told, ("event", 0))
        told = fault_of(PLANK, [], ((), [], (2,)), cart=CART, lot=(), **OVER)
        self.assertEqual(told, ("left",))


class AgainAndAgain(unittest.TestCase):
    def test_nothing_goes(self):
        plank = PLANK.strengthened([(9, 1)] * 3)
        for back in (True, False):
            self.assertEqual(again_and_again(plank, [], cart=CART, back=back, **OVER), (0, [], (0, 1, 2)))
        self.assertEqual(again_and_again(plank, [], cart=CART, lot=(1,), **OVER), (0, [], (1,)))

    def test_two_ways(self):
        self.assertEqual(again_and_again(PLANK, [], cart=CART, **OVER), (1, [()], ()))
        self.assertEqual(again_and_again(PLANK, [], cart=CART, **BACK), (2, [(1,), ()], ()))

    def test_rolled_back_or_put_at_start_anew(self):
        plank = Plank(14, [(1, (4, 1)), (2, (4, 1)), (4, (4, 1)), (6, (7, 2)), (10, (3, 1)), (13, (2, 1))])
        roll = {"cart": [((0, 1), (3, 1)), ((3, 1), (2, 1))], "start": (0, 1), "goal": (14, 1)}
        self.assertEqual(again_and_again(plank, [], **roll), (2, [(0, 1, 2, 3), ()], ()))
        self.assertEqual(again_and_again(plank, [], back=True, **roll), (2, [(0, 1, 2, 3), ()], ()))
        lots = [(0, 1, 2, 3), (0, 1, 2), (0, 1), (0,), ()]
        self.assertEqual(again_and_again(plank, [], back=False, **roll), (5, lots, ()))
        plank = Plank(14, [(2, (7, 2)), (3, (3, 2)), (6, (2, 1)), (9, (5, 2)), (11, (4, 1)), (12, (2, 1))])
        roll["cart"] = [((0, 1), (2, 1)), ((3, 1), (1, 3)), ((7, 2), (2, 1))]
        weights = [((9, 1), (1, 2))]
        self.assertEqual(again_and_again(plank, weights, **roll), (3, [(0, 4, 5), (4, 5), ()], ()))
        self.assertEqual(again_and_again(plank, weights, back=False, **roll), (2, [(0, 4, 5), ()], ()))

    def test_roll_by_roll(self):
        many = set()
        chance = random.Random(78)
        bare = []
        for _ in range(40):
            strengths = [pair(Fraction(chance.randint(2, 9), 3)) for _ in range(4)]
            bare.append((Plank(12, list(zip((2, 5, 7, 10), strengths))), []))
        for plank, weights, cart, start, goal in cases_with_carts(some_planks(78, 20) + bare, 78, 2):
            lasts = set()
            for one, other in ((start, goal), (goal, start)):
                for back in (True, False):
                    told = again_and_again(plank, weights, cart=cart, start=one, goal=other, back=back)
                    ends, lot, lots = [(one, other), (other, one) if back else (one, other)], everything(plank), []
                    for roll in range(2 * plank.count() + 2):
                        there, then = ends[roll % 2]
                        left = rolled(plank, weights, cart=cart, start=there, goal=then, lot=lot)[2]
                        lots += [left] if left != lot else []
                        lot = left
                    self.assertEqual(told, (len(lots), lots, lot))
                    self.assertEqual((type(told), type(told[1])), (tuple, list))
                    many.add((back, len(lots)))
                    lasts.add(lot)
                    if back:
                        self.assertEqual(again_and_again(plank, weights, cart=cart, start=one, goal=other), told)
            self.assertEqual(len(lasts), 1)
            self.assertEqual(lasts, {for_ever(plank, weights, [(cart, start, goal)])[0]})
        self.assertTrue({(True, 0), (True, 1), (True, 2), (False, 0), (False, 1), (False, 2)} <= many, many)


class ForEver(unittest.TestCase):
    def rolls_of(self, chance, plank, many, most_axles=3):
        return [(a_cart(chance, most_axles, 2), *chance.choice(rolling.ways(chance, plank))) for _ in range(many)]

    def looked_at(self, plank, weights, rolls, lot, told):
        """Look at a tuple as it is told."""
        left, row = told
        self.assertEqual((type(told), type(left), type(row)), (tuple, tuple, list))
        self.assertEqual(sorted([prop for prop, _ in row] + list(left)), list(lot))
        for prop, places in row:
            self.assertEqual((type(places), len(places)), (tuple, len(rolls)))
            for place, (_, start, goal) in zip(places, rolls):
                low, high = sorted((Fraction(*start), Fraction(*goal)))
                self.assertTrue(low <= Fraction(*place) <= high)
            there = with_carts(plank, weights, [cart for cart, _, _ in rolls], [Fraction(*place) for place in places])
            self.assertIn(prop, plainly.overlaid(plank, there, lot))
            lot = plainly.without(lot, prop)
        self.assertEqual(lot, left)

    def test_against_all_turns_at_once(self):
        chance, seen = random.Random(79), set()
        for at, (plank, weights) in enumerate(some_planks(79, 40, 3)):
            rolls = self.rolls_of(chance, plank, at % 3 + 1, 3 if at % 3 == 0 else 2 if at % 3 == 1 else 1)
            for lot in (everything(plank), everything(plank)[:-1]):
                told = for_ever(plank, weights, rolls, lot=lot)
                self.assertEqual(told[0], rolling.for_ever(plank, weights, rolls, lot))
                self.looked_at(plank, weights, rolls, lot, told)
                self.assertIs(is_for_ever(plank, weights, rolls, told, lot=lot), True)
                seen.add((len(rolls), bool(told[0]), bool(told[1])))
            self.assertEqual(for_ever(plank, weights, rolls), for_ever(plank, weights, rolls, lot=everything(plank)))
        self.assertTrue(len(seen) >= 9, seen)

    def test_great_ones(self):
        chance = random.Random(80)
        plank, weights = great_case((4, 1))
        rolls = [(a_cart(chance), (0, 1), (13, 1)), (a_cart(chance), (13, 1), (1, 10 ** 39)), (a_cart(chance), (3, 1), (3, 1))]
        for strength in ((4, 1), (9, 1), (99, 1)):
            strong = plank.strengthened([strength] * 12)
            told = for_ever(strong, weights, rolls)
            self.looked_at(strong, weights, rolls, everything(plank), told)
            self.assertIs(is_for_ever(strong, weights, rolls, told), True)

    def test_a_cart_of_one_axle_over_the_whole_plank(self):
        for plank, weights in some_planks(81, 40):
            weight = Fraction(3, 2)
            left = for_ever(plank, weights, [([((0, 1), pair(weight))], (0, 1), (plank.length(), 1))])[0]
            strengths = [Fraction(*strength) - weight for _, strength in plank.props()]
            lot = everything(plank)
            while True:
                on = plainly.laid(plank, weights, plainly.rests_of(plank, lot))
                going = [prop for prop in lot if on[prop] > strengths[prop]]
                if not going:
                    break
                lot = plainly.without(lot, going[0])
            self.assertEqual(left, lot)

    def test_more_of_anything_never_leaves_more(self):
        chance = random.Random(82)
        for plank, weights in some_planks(82, 30):
            cart = a_cart(chance, 3)
            length = (plank.length(), 1)
            part = for_ever(plank, weights, [(cart, (1, 1), (2, 1))])[0]
            whole = for_ever(plank, weights, [(cart, (0, 1), length)])[0]
            heavier = [(behind, (2 * weight[0], weight[1])) if weight[1] % 2 else (behind, (weight[0], weight[1] // 2))
                       for behind, weight in cart]
            more = [*cart, ((99, 1), (1, 1))]
            self.assertTrue(set(whole) <= set(part))
            for rolls in ([(heavier, (0, 1), length)], [(more, (0, 1), length)], [(cart, (0, 1), length), (ONE, (0, 1), length)]):
                self.assertTrue(set(for_ever(plank, weights, rolls)[0]) <= set(whole))
            self.assertTrue(set(whole) <= set(rolled(plank, weights, cart=cart, start=(0, 1), goal=length)[2]))


class IsForEver(unittest.TestCase):
    PLANK = Plank(12, [(3, (1, 1)), (6, (9, 1)), (9, (1, 1))])
    ROLLS = [(ONE, (0, 1), (12, 1)), ([((0, 1), (1, 2))], (9, 1), (3, 1))]

    def is_right(self, thing, **lot):
        return is_for_ever(self.PLANK, [], self.ROLLS, thing, **lot)

    def test_right_ones_in_any_order_by_any_places(self):
        self.assertEqual(for_ever(self.PLANK, [], self.ROLLS)[0], (1,))
        here, there = ((3, 1), (3, 1)), ((9, 1), (9, 1))
        for row in ([(0, here), (2, there)], [(2, there), (0, here)], [(0, ((3, 1), (7, 2))), (2, ((17, 2), (8, 1)))],
                    [(0, ((12, 5), (3, 1))), (2, there)]):
            self.assertIs(self.is_right(((1,), row)), True, row)
        self.assertIs(self.is_right(((1,), [(0, here)]), lot=(0, 1)), True)
        self.assertIs(self.is_right(((), []), lot=()), True)

    def test_wrong_ones(self):
        here, there = ((3, 1), (3, 1)), ((9, 1), (9, 1))
        right = ((1,), [(0, here), (2, there)])
        rows = [[(0, here)], [(2, there)], [], [(0, here), (2, there), (1, here)], [(0, here), (0, here), (2, there)],
                [(0, here), (2, there), (2, there)], [(0, here), (1, here), (2, there)], [(0, there), (2, there)],
                [(0, ((3, 1), (6, 1))), (2, there)], [(0, ((3, 1),)), (2, there)], [(0, ((3, 1), (3, 1), (3, 1))), (2, there)],
                [(0, ((3, 1), (2, 1))), (2, there)], [(0, here), (2, ((9, 1), (10, 1)))], [(0, here), (2, ((13, 1), (9, 1)))],
                [(0, ((-3, 1), (3, 1))), (2, there)], [(0, list(here)), (2, there)], [[0, here], (2, there)],
                [(False, here), (2, there)], [(0, ((3, True), (3, 1))), (2, there)], [(0, (3, 3)), (2, there)],
                [(0, ((6, 2), (3, 1))), (2, there)], [(0, here, None), (2, there)], [(0,), (2, there)], [(3, here), (2, there)],
                [(0.0, here), (2, there)], [(0, None), (2, there)], [None], [0, 2], [(0, Agreeable()), (2, there)],
                [(Agreeable(), here), (2, there)], [(Quarrelsome(), here)], [(0, Quarrelsome())], [Quarrelsome()],
                [(0, (Agreeable(), Agreeable())), (2, there)], [(0, (Quarrelsome(), (3, 1))), (2, there)]]
        things = [((1,), row) for row in rows] + [(lot, right[1]) for lot in (
            (), (0,), (0, 1), (1, 2), (0, 1, 2), [1], (1, 1), (True,), (3,), None, 1, (1.0,), Agreeable(), Quarrelsome(),
            (Agreeable(),))]
        things += odd_things() + [right[:1], (*right, None), list(right), right[::-1], ((1,), tuple(right[1])),
                                  ((1,), {0: here}), ((1,), None), ((1,), Agreeable()), ((1,), Quarrelsome())]
        for thing in things:
            self.assertIs(self.is_right(thing), False, thing)
        self.assertIs(self.is_right(right), True)
        for lot in ((), (0, 1), (0, 2), (1, 2)):
            self.assertIs(self.is_right(right, lot=lot), False)

    def test_props_that_go_only_behind_others(self):
        plank = Plank(9, [(3, (1, 1)), (6, (1, 1))])
        weights = [((3, 1), (1, 2)), ((6, 1), (1, 2))]
        rolls = [([((0, 1), (3, 5))], (0, 1), (4, 1))]
        left, row = for_ever(plank, weights, rolls)
        self.assertEqual((left, [prop for prop, _ in row]), ((), [0, 1]))
        self.assertIs(is_for_ever(plank, weights, rolls, (left, row)), True)
        self.assertIs(is_for_ever(plank, weights, rolls, (left, row[::-1])), False)
        self.assertIs(is_for_ever(plank, weights, rolls, ((1,), row[:1])), False)


if __name__ == "__main__":
    unittest.main()
