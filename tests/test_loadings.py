"""Loadings one behind the other, in all orders, and deeds [40, 41, 42, 43, 44]."""

import random
import unittest
from fractions import Fraction
from itertools import combinations, permutations, product
from math import factorial

import plainly
from cases import great_case
from odd import Agreeable, Quarrelsome, odd_things
from plainly import everything, lots_within, pair
from propfall.errors import NoDeed, NoProp, NoRow, TooMany
from propfall.falls import standing
from propfall.loadings import done, fewest, is_never, left_behind, orders, rounds, why_not
from propfall.planks import Plank

# The first loading fells 0, the second one 2; 1 bears either, and bears the third one with 0 alone.
PLANK = Plank(12, [(3, (2, 1)), (6, (3, 1)), (9, (5, 2))])
LOADINGS = [[((3, 1), (5, 2))], [((9, 1), (3, 1))], [((5, 1), (4, 1))], []]

# Loadings and how many states they come to on a plank.
BOUND_PLANK = Plank(12, [(2, (1, 1)), (5, (1, 1)), (8, (1, 1)), (11, (1, 1))])
BOUNDS = [
    ([[((5, 1), (3, 1))], [((7, 1), (1, 1))], [((6, 1), (1, 1))], [((2, 1), (4, 1))], [((1, 1), (4, 1)), ((10, 1), (2, 1))],
      [((2, 1), (1, 1))]], 99),
    ([[((11, 1), (3, 1)), ((1, 1), (1, 1))], [((6, 1), (4, 1))], [((8, 1), (1, 1))], [],
      [((10, 1), (6, 1)), ((8, 1), (4, 1))], []], 100),
    ([[((1, 1), (3, 1)), ((8, 1), (1, 1))], [((10, 1), (5, 1)), ((10, 1), (5, 1))], [((9, 1), (1, 1))],
      [((11, 1), (1, 1))], [((8, 1), (2, 1)), ((10, 1), (5, 1))], [((8, 1), (1, 1)), ((11, 1), (2, 1))]], 101)]
# Planks and loadings of whose orders the lots left are many.
MANY_LOTS = [
    (Plank(12, [(1, (5, 2)), (3, (5, 2)), (6, (2, 1)), (11, (3, 2))]),
     [[((5, 1), (7, 2))], [((7, 1), (3, 1))], [((2, 1), (3, 1))]]),
    (Plank(12, [(1, (2, 1)), (3, (5, 2)), (8, (2, 1)), (10, (5, 2))]),
     [[((4, 1), (3, 1))], [((7, 1), (4, 1))], [((9, 1), (4, 1))]]),
    (Plank(12, [(1, (3, 1)), (2, (3, 1)), (3, (2, 1)), (10, (1, 1))]),
     [[((4, 1), (7, 2))], [((2, 1), (4, 1))], [((2, 1), (7, 2))]])]
ALL_BOUNDS = [(BOUND_PLANK, loadings) for loadings, _ in BOUNDS]


def a_case_of_loadings(chance, most):
    """Tell a plank and up to so many loadings."""
    places = sorted(chance.sample(range(1, 16), chance.randint(3, 5)))
    plank = Plank(16, [(place, pair(Fraction(chance.randint(2, 8), 2))) for place in places])
    loadings = [[((chance.randint(1, 15), 1), pair(Fraction(chance.randint(1, 8), 2))) for _ in range(chance.randint(0, 2))]
                for _ in range(chance.randint(1, most))]
    return plank, loadings


def a_crossed_case(chance, most):
    """Tell a plank and loadings of which two fell one prop each, by whose fall the other one is too much for a third."""
    plank = Plank(12, [(3, (1, 1)), (6, pair(Fraction(chance.randint(10, 16), 10))), (9, (1, 1))])
    crossed = [[((3, 1), (11, 10)), ((8, 1), (3, 2))], [((9, 1), (11, 10)), ((4, 1), pair(Fraction(chance.randint(8, 15), 10)))]]
    others = [[((chance.randint(1, 11), 1), pair(Fraction(chance.randint(1, 5), 4)))] for _ in range(chance.randint(0, most - 2))]
    loadings = crossed + others
    chance.shuffle(loadings)
    return plank, loadings


def cases_of_loadings(seed, many=30, most=4):
    """Tell tuples (plank, loadings); behind many of them it hangs on the order what is left."""
    chance = random.Random(seed)
    some = [a_case_of_loadings(chance, most) for _ in range(10 * many)]
    picked = [one for one in some if len(orders(*one)) > 1][:many // 2]
    crossed = [a_crossed_case(chance, most) for _ in range(many // 3)]
    return some[:many - len(picked)] + picked + crossed


def put_on(plank, loadings, row, lot=None):
    """Tell the lots left by a row of loadings, each put on by itself."""
    lot, lots = everything(plank) if lot is None else lot, []
    for k in row:
        lot = plainly.standing(plank, loadings[k], lot)
        lots.append(lot)
    return lots


def behind(plank, loadings, state, deed):
    """Tell the state behind a deed."""
    lying, lot = state
    word, k = deed
    if word == "take":
        return tuple(one for one in lying if one != k), lot
    lying = tuple(sorted((*lying, k)))
    return lying, standing(plank, [weight for one in lying for weight in loadings[one]], lot=lot)


def all_deeds(loadings, lying):
    return [("put", k) for k in range(len(loadings)) if k not in lying] + [("take", k) for k in lying]


def all_states(plank, loadings):
    """Tell a dict from all states that can be come to, to the fewest deeds."""
    states, found = [((), everything(plank))], {((), everything(plank)): 0}
    while states:
        state = states.pop(0)
        for deed in all_deeds(loadings, state[0]):
            there = behind(plank, loadings, state, deed)
            if there not in found:
                found[there] = found[state] + 1
                states.append(there)
    return found


class Rows(unittest.TestCase):
    def test_a_plank(self):
        self.assertEqual(left_behind(PLANK, LOADINGS, row=[0, 1, 2, 3, 0]), [(1, 2), (1,), (), (), ()])
        self.assertEqual(left_behind(PLANK, LOADINGS, row=[2, 0, 2]), [(0, 1, 2), (1, 2), (2,)])
        self.assertEqual(left_behind(PLANK, LOADINGS, row=[]), [])
        self.assertEqual(left_behind(PLANK, LOADINGS, row=[3] * 40), [(0, 1, 2)] * 40)
        self.assertEqual(rounds(PLANK, LOADINGS, row=[]), (0, (0, 1, 2)))
        self.assertEqual(rounds(PLANK, LOADINGS, row=[3, 2]), (0, (0, 1, 2)))
        self.assertEqual(rounds(PLANK, LOADINGS, row=[0, 2]), (1, (2,)))
        self.assertEqual(rounds(PLANK, LOADINGS, row=[2, 0]), (2, (2,)))

    def test_each_by_itself_and_what_gave_way_stays_down(self):
        chance = random.Random(91)
        for plank, loadings in cases_of_loadings(91):
            for many in (1, 2, 3, 7, 40):
                row = [chance.randrange(len(loadings)) for _ in range(many)]
                told = left_behind(plank, loadings, row=row)
                self.assertIs(type(told), list)
                self.assertEqual(told, put_on(plank, loadings, row))

    def test_again_and_again(self):
        chance, many_of = random.Random(92), set()
        for plank, loadings in cases_of_loadings(92, 120):
            row = [chance.randrange(len(loadings)) for _ in range(chance.randint(0, 6))]
            lot, many = everything(plank), 0
            while row and put_on(plank, loadings, row, lot)[-1] != lot:
                lot, many = put_on(plank, loadings, row, lot)[-1], many + 1
            self.assertEqual(rounds(plank, loadings, row=row), (many, lot))
            many_of.add(many)
            # It hangs on which ones are in the row alone, and is the greatest that stands under each.
            self.assertEqual(rounds(plank, loadings, row=sorted(set(row)))[1], lot)
            self.assertEqual(rounds(plank, loadings, row=row[::-1])[1], lot)
            greatest = [some for some in lots_within(everything(plank))
                        if not any(plainly.overlaid(plank, loadings[k], some) for k in row)]
            self.assertEqual(max(greatest, key=len), lot)
        self.assertTrue({0, 1, 2} <= many_of, many_of)

    def test_no_rows(self):
        for row in odd_things() + [0, (0, 1), "01", [4], [-1], [0, 4], [True], [0, False], [0.0], ["0"], [None], [(0,)], [[0]],
                                   [0] * 41, [Agreeable()], [0, Quarrelsome()], {0: 1}, [10 ** 50]]:
            self.assertRaises(NoRow, left_behind, PLANK, LOADINGS, row=row)
            self.assertRaises(NoRow, rounds, PLANK, LOADINGS, row=row)


class Orders(unittest.TestCase):
    def test_a_plank(self):
        self.assertEqual(orders(PLANK, LOADINGS[:3]), [((1,), 3, [1, 2, 0]), ((), 3, [0, 1, 2])])
        self.assertEqual(orders(PLANK, LOADINGS[3:]), [((0, 1, 2), 1, [0])])
        self.assertEqual([why_not(PLANK, LOADINGS, prop=prop) for prop in range(3)], [(0,), None, (1,)])

    def test_against_all_orders_one_by_one(self):
        many_lots = set()
        for plank, loadings in cases_of_loadings(93, 40) + MANY_LOTS:
            rows = {}
            for row in permutations(range(len(loadings))):
                rows.setdefault(put_on(plank, loadings, row)[-1], []).append(list(row))
            told = orders(plank, loadings)
            self.assertIs(type(told), list)
            self.assertEqual(told, [(lot, len(rows[lot]), min(rows[lot]))
                                    for lot in sorted(rows, key=lambda lot: (-len(lot), lot))])
            self.assertEqual(sum(many for _, many, _ in told), factorial(len(loadings)))
            many_lots.add(len(told))
        self.assertTrue({1, 2, 3, 5} <= many_lots, many_lots)

    def test_lots_of_one_size_the_least_first(self):
        seen = False
        for plank, loadings in cases_of_loadings(94, 30, 3) + MANY_LOTS:
            lots = [lot for lot, _, _ in orders(plank, loadings)]
            self.assertEqual(lots, sorted(lots, key=lambda lot: (-len(lot), lot)))
            seen = seen or len({len(lot) for lot in lots}) < len(lots)
        self.assertTrue(seen)

    def test_why_a_prop_stands_behind_none(self):
        sizes = set()
        for plank, loadings in cases_of_loadings(95, 30, 4):
            numbers = range(len(loadings))
            for prop in everything(plank):
                gone = [some for many in range(1, len(loadings) + 1) for some in combinations(numbers, many)
                        if not any(prop in put_on(plank, loadings, row)[-1] for row in permutations(some))]
                told = why_not(plank, loadings, prop=prop)
                self.assertEqual(told, gone[0] if gone else None)
                self.assertEqual(told is None, any(prop in lot for lot, _, _ in orders(plank, loadings)))
                sizes.add(0 if told is None else len(told))
        self.assertTrue({0, 1, 2} <= sizes, sizes)

    def test_two_of_which_neither_fells_it_by_itself(self):
        # Either loading fells a neighbour of 1, and then the other one is too much for it.
        plank = Plank(12, [(3, (1, 1)), (6, (5, 4)), (9, (1, 1))])
        loadings = [[], [((3, 1), (11, 10)), ((8, 1), (3, 2))], [((9, 1), (11, 10)), ((4, 1), (3, 2))]]
        self.assertEqual(left_behind(plank, loadings, row=[1, 2]), [(1, 2), ()])
        self.assertEqual(left_behind(plank, loadings, row=[2, 1]), [(0, 1), ()])
        self.assertEqual(why_not(plank, loadings, prop=1), (1, 2))

    def test_eight_loadings(self):
        plank, weights = great_case((3, 2))
        loadings = [weights[k::8] + weights[k:k + 1] * 2 for k in range(8)]
        told = orders(plank, loadings)
        self.assertEqual(sum(many for _, many, _ in told), factorial(8))
        for lot, _, row in told:
            self.assertEqual(left_behind(plank, loadings, row=row)[-1], lot)

    def test_no_prop(self):
        for thing in odd_things() + [3, -1, (0,), [0], "0", 10 ** 50]:
            with self.assertRaises(NoProp) as caught:
                why_not(PLANK, LOADINGS, prop=thing)
            self.assertIs(caught.exception.prop, thing)


class Done(unittest.TestCase):
    def test_a_plank(self):
        self.assertEqual(done(PLANK, LOADINGS, deeds=[]), [])
        self.assertEqual(done(PLANK, LOADINGS, deeds=[("put", 3), ("take", 3), ("put", 0), ("take", 0), ("put", 0)]),
                         [(0, 1, 2)] * 2 + [(1, 2)] * 3)
        light = [[((3, 1), (2, 1))], [((3, 1), (1, 10 ** 9))]]
        self.assertEqual(done(PLANK, light, deeds=[("put", 0), ("put", 1), ("take", 0)]), [(0, 1, 2), (1, 2), (1, 2)])
        self.assertEqual(done(PLANK, light, deeds=[("put", 0), ("take", 0), ("put", 1)]), [(0, 1, 2)] * 3)

    def test_deed_by_deed(self):
        chance = random.Random(96)
        for plank, loadings in cases_of_loadings(96, 60):
            for many in (1, 5, 40):
                state, deeds, lots = ((), everything(plank)), [], []
                for _ in range(many):
                    deeds.append(chance.choice(all_deeds(loadings, state[0])))
                    was, state = state, behind(plank, loadings, state, deeds[-1])
                    lots.append(state[1])
                    self.assertTrue(deeds[-1][0] == "put" or state[1] == was[1])
                told = done(plank, loadings, deeds=deeds)
                self.assertEqual((type(told), told), (list, lots))

    def test_all_put_on_in_any_order_leave_what_they_leave_at_once(self):
        for plank, loadings in cases_of_loadings(97, 30):
            left = standing(plank, sum(loadings, []))
            for row in permutations(range(len(loadings))):
                self.assertEqual(done(plank, loadings, deeds=[("put", k) for k in row])[-1], left)

    def test_more_than_twenty_weights_together(self):
        plank, weights = great_case((3, 1))
        loadings = [[(place, pair(Fraction(*weight) / (k + 1))) for place, weight in weights] for k in range(8)]
        deeds = [("put", k) for k in range(8)] + [("take", k) for k in range(8)]
        self.assertEqual(done(plank, loadings, deeds=deeds)[7:], [standing(plank, sum(loadings, []))] * 9)

    def test_no_deeds(self):
        for deeds in odd_things() + [0, (("put", 0),), {0: ("put", 0)}, [("put", 0), ("take", 0)] * 20 + [None], "put",
                                     [None] * 41, [Agreeable()] * 99]:
            self.refused(deeds, -1)
        put, take = ("put", 0), ("take", 0)
        wrong = odd_things() + [take, ["put", 1], ("put", 1, 1), ("put",), ("put", 4), ("put", -1), ("put", True),
                                ("put", False), ("put", 1.0), ("put", "1"), ("put", None), ("puts", 1), ("Put", 1), (b"put", 1),
                                (1, "put"), ("take", 1), ("take", 4), "put", ("put", (1,)), ("put", Agreeable()), ("lift", 0),
                                ("put", Quarrelsome()), (Agreeable(), 1), (Quarrelsome(), 1), (None, 1), (0, 0), {"put": 1}]
        for thing in wrong:
            self.refused([thing], 0)
            self.refused([put, take, thing], 2)
            self.refused([put, take, thing, None, Quarrelsome()], 2)
            self.refused([put, take] * 19 + [thing], 38)
        self.refused([put, put], 1)
        self.refused([put, take, take], 2)
        self.assertEqual(len(done(PLANK, LOADINGS, deeds=[put, take] * 20)), 40)

    def refused(self, deeds, at):
        with self.assertRaises(NoDeed) as caught:
            done(PLANK, LOADINGS, deeds=deeds)
        self.assertEqual(caught.exception.at, at)


class Fewest(unittest.TestCase):
    def sought(self, prop, stays, state):
        return prop not in state[1] and set(stays) <= set(state[1])

    def test_a_plank(self):
        self.assertEqual(fewest(PLANK, LOADINGS, prop=0), [("put", 0)])
        self.assertEqual(fewest(PLANK, LOADINGS, prop=0, stays=(1, 2)), [("put", 0)])
        self.assertEqual(fewest(PLANK, LOADINGS, prop=1), [("put", 0), ("put", 2)])
        self.assertEqual(fewest(PLANK, LOADINGS, prop=1, stays=(2,)), [("put", 0), ("take", 0), ("put", 2)])
        word, states = fewest(PLANK, LOADINGS, prop=1, stays=(0,))
        self.assertEqual(word, "never")
        self.assertEqual(states, sorted(all_states(PLANK, LOADINGS)))
        self.assertEqual(fewest(PLANK, LOADINGS[3:], prop=1), ("never", [((), (0, 1, 2)), ((0,), (0, 1, 2))]))

    def test_the_prop_itself_among_those_that_stay(self):
        word, states = fewest(PLANK, LOADINGS, prop=0, stays=(0,))
        self.assertEqual((word, states), ("never", sorted(all_states(PLANK, LOADINGS))))
        self.assertIs(is_never(PLANK, LOADINGS, states, prop=0, stays=(0,)), True)

    def test_the_least_row_of_the_fewest_against_all_rows(self):
        lengths = set()
        for plank, loadings in cases_of_loadings(98, 15, 3):
            for prop in everything(plank):
                for stays in lots_within(everything(plank)):
                    rows = [[]]
                    states, right = {(): ((), everything(plank))}, None
                    for _ in range(4):
                        rows = [row + [deed] for row in rows for deed in all_deeds(loadings, states[tuple(row)][0])]
                        for row in rows:
                            states[tuple(row)] = behind(plank, loadings, states[tuple(row[:-1])], row[-1])
                        right = min((row for row in rows if self.sought(prop, stays, states[tuple(row)])), default=None)
                        if right is not None or len(rows) > 400:
                            break
                    told = fewest(plank, loadings, prop=prop, stays=stays)
                    if right is not None:
                        self.assertEqual(told, right)
                        self.assertIs(type(told), list)
                        lengths.add(len(right))
                    else:
                        self.assertTrue(told[0] == "never" or len(told) > len(rows[0]))
                        lengths.add(0)
        self.assertTrue({0, 1, 2, 3} <= lengths, lengths)

    def test_all_states_or_the_fewest_or_too_many(self):
        seen = set()
        for plank, loadings in cases_of_loadings(99, 40, 5) + ALL_BOUNDS:
            states = all_states(plank, loadings)
            for prop, stays in product(everything(plank), [(), *lots_within(everything(plank))[1::3]]):
                right = [many for state, many in states.items() if self.sought(prop, stays, state)]
                ahead = [state for state, many in states.items() if not right or many < min(right)]
                if len(ahead) > 100:
                    with self.assertRaises(TooMany) as caught:
                        fewest(plank, loadings, prop=prop, stays=stays)
                    self.assertEqual(caught.exception.many, 100)
                    seen.add("many")
                elif right:
                    told = fewest(plank, loadings, prop=prop, stays=stays)
                    self.assertEqual(len(told), min(right))
                    state = ((), everything(plank))
                    for deed in told:
                        self.assertIn(deed, all_deeds(loadings, state[0]))
                        state = behind(plank, loadings, state, deed)
                    self.assertTrue(self.sought(prop, stays, state))
                    seen.add("row")
                else:
                    self.assertEqual(fewest(plank, loadings, prop=prop, stays=stays), ("never", sorted(states)))
                    seen.add("never")
        self.assertEqual(seen, {"many", "row", "never"})

    def test_just_a_hundred_states_and_one_more(self):
        for loadings, many in BOUNDS:
            states = all_states(BOUND_PLANK, loadings)
            self.assertEqual(len(states), many)
            if many <= 100:
                self.assertEqual(fewest(BOUND_PLANK, loadings, prop=0, stays=(0,)), ("never", sorted(states)))
            else:
                self.assertRaises(TooMany, fewest, BOUND_PLANK, loadings, prop=0, stays=(0,))

    def test_no_further_than_need_be(self):
        # Of eight loadings that fell nothing alone four are too much: 93 states by fewer deeds.
        plank = Plank(4, [(2, (3, 1))])
        loadings = [[((2, 1), (1, 1))] for _ in range(8)]
        self.assertEqual(fewest(plank, loadings, prop=0), [("put", k) for k in range(4)])
        self.assertRaises(TooMany, fewest, plank.strengthened([(4, 1)]), loadings, prop=0)
        self.assertEqual(len(fewest(plank, loadings[:5], prop=0, stays=(0,))[1]), len(all_states(plank, loadings[:5])))


class IsNever(unittest.TestCase):
    def test_in_any_order_some_told_twice(self):
        _, states = fewest(PLANK, LOADINGS, prop=1, stays=(0,))
        for thing in (states, states[::-1], states + states[:3], states * 2):
            self.assertIs(is_never(PLANK, LOADINGS, thing, prop=1, stays=(0,)), True)
        for at in range(len(states)):
            self.assertIs(is_never(PLANK, LOADINGS, states[:at] + states[at + 1:], prop=1, stays=(0,)), False)

    def test_states_more_than_can_be_come_to(self):
        plank = Plank(4, [(2, (3, 1))])
        loadings = [[((2, 1), (1, 1))]]
        states = [((), (0,)), ((0,), (0,))]
        self.assertIs(is_never(plank, loadings, states, prop=0), True)
        more = [((), ()), ((0,), ())]
        self.assertIs(is_never(plank, loadings, states + more, prop=0), False)
        self.assertIs(is_never(plank, loadings, states + more, prop=0, stays=(0,)), True)
        self.assertIs(is_never(plank, loadings, states + more[:1], prop=0, stays=(0,)), False)
        self.assertIs(is_never(plank, loadings, states + more[1:], prop=0, stays=(0,)), False)
        # A take leaves the lot as it is, also one that can't stand under what lies there.
        weak = plank.strengthened([(1, 2)])
        first = [((), (0,)), ((0,), ()), ((), ())]
        self.assertIs(is_never(weak, loadings, first, prop=0, stays=(0,)), True)
        self.assertIs(is_never(weak, loadings, first + [((0,), (0,))], prop=0, stays=(0,)), True)

    def test_a_take_leaves_the_lot_though_it_does_not_stand(self):
        # From the state ((0, 1), all), which can't be come to, a take of 0 leads to ((1,), all).
        plank = Plank(6, [(2, (1, 1)), (4, (1, 1))])
        loadings = [[((2, 1), (2, 1))], [((4, 1), (2, 1))]]
        states = sorted(all_states(plank, loadings))
        odd_one = ((0, 1), (0, 1))
        self.assertNotIn(odd_one, states)
        self.assertIs(is_never(plank, loadings, states, prop=0, stays=(0,)), True)
        self.assertIs(is_never(plank, loadings, states + [odd_one], prop=0, stays=(0,)), False)
        self.assertIs(is_never(plank, loadings, states + [odd_one, ((0,), (0, 1)), ((1,), (0, 1))], prop=0, stays=(0,)), True)

    def test_of_anything(self):
        right = [((), (0, 1, 2)), ((0,), (0, 1, 2))]
        self.assertIs(is_never(PLANK, LOADINGS[3:], right, prop=1), True)
        wrong = [[], [right[0]], [right[1]], tuple(right), {0: right}, [*right, None], [list(right[0]), right[1]],
                 [right[0], ([0], (0, 1, 2))], [right[0], ((0,), [0, 1, 2])], [right[0], ((0, 0), (0, 1, 2))], [*right, ()],
                 [*right, ((1,), (0, 1, 2))], [*right, ((-1,), (0, 1, 2))], [*right, ((), (3,))], [*right, ((), (1, 0))],
                 [right[0], ((False,), (0, 1, 2))], [right[0], ((0,), (False, 1, 2))], [right[0], ((0.0,), (0, 1, 2))],
                 [*right, ((), (0, 1, 2), ())], [*right, Agreeable()], [*right, Quarrelsome()], [*right, ((), Agreeable())],
                 [*right, (Quarrelsome(), ())], [*right, ((Agreeable(),), ())], ["state"], [right], "states",
                 [*right, ((0,), (0, 1, 2, 3))], [*right, ((), ())], [((), (0, 1)), ((0,), (0, 1))]]
        for thing in wrong + odd_things():
            self.assertIs(is_never(PLANK, LOADINGS[3:], thing, prop=1), False, thing)



if __name__ == "__main__":
    unittest.main()
