"""The cheapest props that hold, the cheapest mending, and prices as their papers [45, 46, 47, 48, 49]."""

import random
import unittest
from fractions import Fraction
from itertools import combinations, product

import plainly
from cases import cases, tight_cases
from odd import Agreeable, Quarrelsome, odd_things
from plainly import everything, lots_within, pair
from propfall.errors import NoMenu, NoPlank, NoWeights
from propfall.menus import barred, cheapest, mend_barred, mended
from propfall.planks import Plank

LENGTH, BEND = 10, (3, 1)
WEIGHTS = [((3, 1), (2, 1)), ((6, 1), (3, 1))]
MENU = [(3, (2, 1), 5), (6, (3, 1), 7), (5, (9, 1), 11), (3, (1, 1), 1), (6, (9, 1), 8)]
PLANK = Plank(10, [(2, (1, 1)), (5, (2, 1)), (8, (1, 1))], bend=(2, 1))
EACH = [3, 2, 5]


def asked(menu=None, bend=BEND, length=LENGTH):
    return {"length": length, "bend": bend, "menu": MENU if menu is None else menu}


def menus(seed, many=60, most=6):
    """Tell tuples (weights, length, bend, menu)."""
    chance = random.Random(seed)
    found = []
    for _ in range(many):
        length = chance.randint(6, 12)
        weights = [((chance.randint(1, length - 1), 1), pair(Fraction(chance.randint(1, 9), chance.choice((1, 2, 3)))))
                   for _ in range(chance.randint(1, 3))]
        menu = [(chance.randint(1, length - 1), pair(Fraction(chance.randint(0, 12), chance.choice((1, 2, 3)))),
                 chance.choice((0, 1, 2, 2, 3, 5))) for _ in range(chance.randint(0, most))]
        bend = chance.choice((None, (0, 1), pair(Fraction(chance.randint(1, 9), 2)), pair(Fraction(chance.randint(1, 9)))))
        found.append((weights, length, bend, menu))
    return found


def bends_hold(plank, weights, lot, bend):
    return bend is None or all(plainly.bend(plank, weights, lot, place) <= Fraction(*bend) for place, _ in weights)


def buyings(weights, length, bend, menu):
    """Tell tuples (price, buying) of all buyings that hold."""
    found = []
    for some in lots_within(tuple(range(len(menu)))):
        buying = sorted(some, key=lambda k: menu[k][0])
        if len({menu[k][0] for k in buying}) == len(buying):
            plank = Plank(length, [menu[k][:2] for k in buying], bend=bend)
            if not plainly.overlaid(plank, weights, everything(plank)) and bends_hold(plank, weights, everything(plank), bend):
                found.append((sum(menu[k][2] for k in buying), buying))
    return found


class Paper:
    """The words of [46], or of [48] where each is told, looked at one by one."""

    def __init__(self, weights, length, bend, props, menu=None, each=None):
        self.weights, self.length, self.bend, self.props, self.menu, self.each = weights, length, bend, props, menu, each
        self.wall = len(props)

    def place(self, node):
        return {-1: 0, self.wall: self.length}.get(node) if node in (-1, self.wall) else self.props[node][0]

    def board(self, one, other):
        places = [(self.place(one), (0, 1)), (self.place(other), (0, 1))]
        plank = Plank(self.length, [prop for prop in places if 0 < prop[0] < self.length])
        return self.place(one) < self.place(other) and all(
            plainly.bend(plank, self.weights, everything(plank), place) <= Fraction(*self.bend)
            for place, _ in self.weights
            if self.place(one) < Fraction(*place) < self.place(other)) if self.bend is not None else True

    def lacks(self, one, middle, other):
        places = [self.place(node) for node in (one, middle, other)]
        plank = Plank(self.length, [(place, (0, 1)) for place in places if 0 < place < self.length])
        lot = everything(plank)
        laid = plainly.laid(plank, self.weights, plainly.rests_of(plank, lot))
        at = {plank.place_of(rest): rest for rest in plainly.rests_of(plank, lot)}
        return laid[at[self.place(middle)]] - Fraction(*self.props[middle][1])

    def bars(self, prices):
        """Tell the least price at the right wall, None where there is none, "no" where the prices are no paper."""
        nodes = range(self.wall)
        for (one, other), price in prices.items():
            if not (self.place(one) < self.place(other)) or price < 0:
                return "no"
        for other in (*nodes, self.wall):
            if self.board(-1, other):
                own = 0 if self.each is not None or other == self.wall else self.menu[other][2]
                if prices.get((-1, other), own + 1) > own:
                    return "no"
        for one, middle, other in product((-1, *nodes), nodes, (*nodes, self.wall)):
            if not self.place(one) < self.place(middle) < self.place(other) or (one, middle) not in prices:
                continue
            if not self.board(one, middle) or not self.board(middle, other):
                continue
            lacks = self.lacks(one, middle, other)
            if self.each is not None:
                cost = max(0, -(-lacks // 1)) * self.each[middle]
            elif lacks > 0:
                continue
            else:
                cost = 0 if other == self.wall else self.menu[other][2]
            most = prices[(one, middle)] + cost
            if prices.get((middle, other), most + 1) > most:
                return "no"
        return min((price for (_, other), price in prices.items() if other == self.wall), default=None)

    def told(self, prices):
        """Tell what barred tells of a dict of such a form."""
        number = self.bars(prices)
        return None if number == "no" else ("none",) if number is None else ("least", number)


def changed_papers(prices, wall):
    """Tell dicts like prices but for one thing."""
    found = []
    for board, price in prices.items():
        found += [{**prices, board: price + 1}, {**prices, board: price - 1} if price else {**prices, board: 10 ** 30},
                  {key: other for key, other in prices.items() if key != board}, {**prices, board: 0}]
    for board in product(range(-1, wall), range(wall + 1)):
        if board not in prices:
            found += [{**prices, board: price} for price in (0, 3)]
    return found


class Cheapest(unittest.TestCase):
    def test_a_menu(self):
        told = cheapest(WEIGHTS, **asked())
        self.assertEqual(told[:3], ("bought", 8, [4]))
        self.assertEqual(barred(WEIGHTS, told[3], **asked()), ("least", 8))
        self.assertEqual(cheapest([], **asked())[:3], ("bought", 0, []))
        self.assertEqual(cheapest(WEIGHTS, **asked(bend=None))[:3], ("bought", 0, []))
        self.assertEqual(cheapest(WEIGHTS, **asked(bend=(0, 1)))[:3], ("bought", 12, [0, 1]))
        self.assertEqual(cheapest(WEIGHTS, **asked(menu=MENU[:1], bend=(0, 1))), ("none", {(-1, 0): 5}))
        self.assertEqual(cheapest(WEIGHTS, **asked(menu=[])), ("none", {}))
        self.assertEqual(cheapest([], **asked(menu=[])), ("bought", 0, [], {(-1, 0): 0}))

    def test_the_least_of_several(self):
        menu = [(6, (9, 1), 4), (3, (9, 1), 4), (6, (9, 1), 4), (4, (0, 1), 0), (3, (9, 1), 4)]
        self.assertEqual(cheapest(WEIGHTS, **asked(menu=menu, bend=(0, 1)))[:3], ("bought", 8, [1, 0]))
        # A thing for nothing ahead of the others makes the list a lesser one.
        free = [(2, (9, 1), 0), (3, (9, 1), 4), (6, (9, 1), 4), (8, (9, 1), 0)]
        self.assertEqual(cheapest(WEIGHTS, **asked(menu=free, bend=(0, 1)))[:3], ("bought", 8, [0, 1, 2]))

    def test_against_all_buyings(self):
        kinds, tied = set(), 0
        for weights, length, bend, menu in menus(101):
            told = cheapest(weights, **asked(menu, bend, length))
            right = buyings(weights, length, bend, menu)
            self.assertIs(type(told), tuple)
            paper = Paper(weights, length, bend, [thing[:2] for thing in menu], menu)
            if right:
                self.assertEqual(told[:3], ("bought", *min(right)))
                self.assertEqual((len(told), type(told[2]), type(told[3])), (4, list, dict))
                self.assertEqual(paper.told(told[3]), ("least", told[1]))
                tied += len([one for one in right if one[0] == min(right)[0]]) > 1
            else:
                self.assertEqual((told[0], len(told)), ("none", 2))
                self.assertEqual(paper.told(told[1]), ("none",))
            self.assertEqual(barred(weights, told[-1], **asked(menu, bend, length)), paper.told(told[-1]))
            kinds.add((told[0], len(told[2]) if right else 0))
        self.assertTrue({("none", 0), ("bought", 0), ("bought", 1), ("bought", 2)} <= kinds, kinds)
        self.assertTrue(tied > 3)

    def test_twenty_four_things_and_more_than_twelve_props(self):
        weights = [((place, 1), (1, 1)) for place in range(1, 15)]
        menu = [(place, (1, 1), 10 ** 6) for place in range(1, 15)] + [(place, (1, 1), 3) for place in range(5, 15)]
        told = cheapest(weights, **asked(menu, (0, 1), 15))
        self.assertEqual(told[:3], ("bought", 4 * 10 ** 6 + 30, [0, 1, 2, 3, *range(14, 24)]))
        self.assertEqual(barred(weights, told[3], **asked(menu, (0, 1), 15)), ("least", 4 * 10 ** 6 + 30))

    def test_fractions_of_forty_figures(self):
        chance = random.Random(102)
        weights = [(pair(Fraction(chance.randrange(10 ** 39), 10 ** 38 + k)), pair(Fraction(chance.randrange(10 ** 39, 10 ** 40), 10 ** 39 - k)))
                   for k in range(20)]
        weights = [(place, weight) for place, weight in weights if Fraction(*place) <= 10]
        menu = [(chance.randint(1, 9), pair(Fraction(chance.randrange(10 ** 39, 10 ** 41), 10 ** 39 - k)), chance.randint(0, 10 ** 6))
                for k in range(24)]
        told = cheapest(weights, **asked(menu, (10 ** 39 + 1, 10 ** 38), 10))
        self.assertEqual(told[0], "bought")
        self.assertEqual(barred(weights, told[3], **asked(menu, (10 ** 39 + 1, 10 ** 38), 10)), ("least", told[1]))

    def test_a_thing_more_never_costs_more_a_weight_more_never_less(self):
        for weights, length, bend, menu in menus(103):
            told = cheapest(weights, **asked(menu, bend, length))
            fewer = cheapest(weights, **asked(menu[:-1], bend, length))
            lighter = cheapest(weights[1:], **asked(menu, bend, length))
            self.assertTrue(fewer[0] == "none" or told[1] <= fewer[1])
            self.assertTrue(told[0] == "none" or lighter[1] <= told[1])


class NoMenus(unittest.TestCase):
    def refused(self, refusal, field, told, weights, **named):
        for call in (lambda: cheapest(weights, **named), lambda: barred(weights, {}, **named),
                     lambda: barred(weights, Quarrelsome(), **named)):
            with self.assertRaises(refusal) as caught:
                call()
            self.assertEqual(getattr(caught.exception, field), told)

    def test_no_plank_ahead_of_all_else(self):
        for length in odd_things() + [0, 1, 1001, -5, (10, 1), [10]]:
            self.refused(NoPlank, "part", "length", None, length=length, bend=-1, menu=None)
        for bend in [thing for thing in odd_things() if thing is not None] + [(-1, 1), (2, 2), 3, [3, 1]]:
            self.refused(NoPlank, "part", "bend", None, length=10, bend=bend, menu=None)

    def test_no_menu_ahead_of_no_weights(self):
        for menu in odd_things() + [0, tuple(MENU), {0: MENU[0]}, "menu"]:
            self.refused(NoMenu, "at", -1, None, **{**asked(), "menu": menu})
        wrong = odd_things() + [list(MENU[0]), MENU[0][:2], (*MENU[0], 1), (0, (1, 1), 1), (10, (1, 1), 1), (-1, (1, 1), 1),
                                ((3, 1), (1, 1), 1), (3.0, (1, 1), 1), (True, (1, 1), 1), (3, 1, 1), (3, (-1, 1), 1), (3, (2, 2), 1),
                                (3, (1, 1), -1), (3, (1, 1), 10 ** 6 + 1), (3, (1, 1), (1, 1)), (3, (1, 1), True), (3, (1, 1), 1.0),
                                (3, [1, 1], 1), (3, (1, 1), None), (None, (1, 1), 1), (3, None, 1), (Agreeable(), (1, 1), 1),
                                (3, Agreeable(), 1), (3, (1, 1), Agreeable()), (Quarrelsome(), (1, 1), 1), (3, Quarrelsome(), 1)]
        for thing in wrong:
            self.refused(NoMenu, "at", 0, None, **asked(menu=[thing, None]))
            self.refused(NoMenu, "at", 4, Quarrelsome(), **asked(menu=MENU[:4] + [thing] + MENU))
            self.refused(NoMenu, "at", 23, None, **asked(menu=MENU[:1] * 23 + [thing] * 9))
        for longer in (MENU[:1], [None], [Quarrelsome()] * 9, MENU * 5):
            self.refused(NoMenu, "at", 24, None, **asked(menu=MENU[:1] * 24 + longer))
        self.assertEqual(cheapest([], **asked(menu=MENU[:1] * 24))[:3], ("bought", 0, []))
        for thing in ((1, (0, 1), 0), (9, (10 ** 40 - 1, 1), 10 ** 6)):
            self.assertEqual(cheapest([], **asked(menu=[thing]))[:3], ("bought", 0, []))

    def test_no_weights(self):
        for weights in odd_things() + [0, tuple(WEIGHTS), dict(WEIGHTS)]:
            self.refused(NoWeights, "at", -1, weights, **asked())
        for thing in odd_things() + [((11, 1), (1, 1)), ((1, 1), (0, 1)), [(1, 1), (1, 1)]]:
            self.refused(NoWeights, "at", 2, WEIGHTS + [thing, None], **asked())

    def test_no_prices_for_each(self):
        for each in odd_things() + [0, [], [1, 2], [1, 2, 3, 4], [None] * 4, tuple(EACH), {0: 1, 1: 1, 2: 1}, "123"]:
            self.refused_each(NoMenu, -1, WEIGHTS, each)
        for thing in odd_things() + [-1, 10 ** 6 + 1, (1, 1), [1], "1"]:
            self.refused_each(NoMenu, 0, WEIGHTS, [thing, None, 1])
            self.refused_each(NoMenu, 2, WEIGHTS, [1, 0, thing])
        for each in ([1], None, Quarrelsome(), EACH):
            self.refused_each(NoWeights, -1, None, each)
            self.refused_each(NoWeights, 1, [WEIGHTS[0], 3], each)
        self.assertEqual(mended(PLANK, [], each=[0, 10 ** 6, 0])[:3], ("mended", 0, [0, 0, 0]))

    def refused_each(self, refusal, at, weights, each):
        for call in (lambda: mended(PLANK, weights, each=each), lambda: mend_barred(PLANK, weights, {}, each=each),
                     lambda: mend_barred(PLANK, weights, Quarrelsome(), each=each)):
            with self.assertRaises(refusal) as caught:
                call()
            self.assertEqual(caught.exception.at, at)


class Barred(unittest.TestCase):
    def test_prices_with_one_thing_otherwise(self):
        seen = set()
        for weights, length, bend, menu in menus(104, 30, 4):
            prices = cheapest(weights, **asked(menu, bend, length))[-1]
            paper = Paper(weights, length, bend, [thing[:2] for thing in menu], menu)
            for thing in changed_papers(prices, len(menu)):
                right = paper.told(thing)
                self.assertEqual(barred(weights, thing, **asked(menu, bend, length)), right)
                seen.add((cheapest(weights, **asked(menu, bend, length))[0], right and right[0]))
        self.assertTrue({("bought", None), ("bought", "least"), ("none", None), ("none", "none"), ("none", "least")} <= seen, seen)

    def test_further_tuples_that_are_no_boards(self):
        prices = cheapest(WEIGHTS, **asked(menu=MENU[:1], bend=(0, 1)))[1]
        self.assertEqual(barred(WEIGHTS, {**prices, (0, 1): 3}, **asked(menu=MENU[:1], bend=(0, 1))), ("least", 3))
        self.assertEqual(barred(WEIGHTS, {**prices, (-1, 1): 99}, **asked(menu=MENU[:1], bend=(0, 1))), ("least", 99))
        self.assertEqual(barred(WEIGHTS, {(-1, 0): 4}, **asked(menu=MENU[:1], bend=(0, 1))), ("none",))
        self.assertEqual(barred(WEIGHTS, {(-1, 0): 6}, **asked(menu=MENU[:1], bend=(0, 1))), None)

    def test_of_anything(self):
        prices = cheapest(WEIGHTS, **asked())[3]
        self.assertEqual(barred(WEIGHTS, prices, **asked()), ("least", 8))
        wrong = [list(prices.items()), tuple(prices.items()), [], (), set(prices), {**prices, (0, 3): 1}, {**prices, (1, 4): 1},
                 {**prices, (0, 0): 1}, {**prices, (4, 0): 1}, {**prices, (5, -1): 1}, {**prices, (5, 5): 1}, {**prices, (0, 6): 1},
                 {**prices, (-2, 0): 1}, {**prices, (-1, -1): 1}, {**prices, (0, -1): 1}, {**prices, 5: 1}, {**prices, (0,): 1},
                 {**prices, (0, 1, 5): 1}, {**prices, "01": 1}, {**prices, None: 1}, {**prices, (None, 5): 1}, {**prices, (-1, "5"): 1},
                 {**prices, (-1, 5): -1}, {**prices, (-1, 5): True}, {**prices, (-1, 5): 1.0}, {**prices, (-1, 5): (1, 1)},
                 {**prices, (-1, 5): None}, {**prices, (-1, 5): Agreeable()}, {**prices, (-1, 5): Quarrelsome()},
                 {**prices, (-1, 5): "1"}, {**prices, (3, True): 1}, {**prices, (0, 5): [1]}]
        without = {board: price for board, price in prices.items() if board != (0, 1)}
        wrong += [{**without, (False, True): 12}, {**without, (0.0, 1): 12}, {**without, frozenset((0, 1)): 12}]
        for thing in wrong + odd_things():
            self.assertIsNone(barred(WEIGHTS, thing, **asked()))
        self.assertEqual(barred(WEIGHTS, {board: 0 for board in prices}, **asked()), ("least", 0))

    def test_of_anything_mended(self):
        prices = mended(PLANK, WEIGHTS, each=EACH)[3]
        self.assertEqual(mend_barred(PLANK, WEIGHTS, prices, each=EACH), ("least", 5))
        for thing in odd_things() + [list(prices.items()), {**prices, (0, 0): 1}, {**prices, (1, 0): 1}, {**prices, (0, 4): 1},
                                     {**prices, (-1, 3): -1}, {**prices, (-1, 3): True}, {**prices, (-1, 3): None},
                                     {**prices, (-1, True): 0}, {**prices, 0: 0}, {**prices, "01": 0}, {}]:
            self.assertIsNone(mend_barred(PLANK, WEIGHTS, thing, each=EACH))


def mendings(plank, weights, each):
    """Tell tuples (price, measures) of mendings by which each lot whose boards hold just stands."""
    found = []
    for lot in lots_within(everything(plank)):
        if bends_hold(plank, weights, lot, plank.bend()):
            on = plainly.laid(plank, weights, plainly.rests_of(plank, lot))
            lacks = {prop: max(Fraction(0), on[prop] - Fraction(*plank.props()[prop][1])) for prop in lot}
            measures = [int(-(-lacks.get(prop, Fraction(0)) // 1)) for prop in everything(plank)]
            found.append((sum(many * price for many, price in zip(measures, each)), measures))
    return found


class Mended(unittest.TestCase):
    def planks(self, seed, many=60):
        chance = random.Random(seed)
        found = []
        for plank, weights in tight_cases(many, 4, seed) + cases(many // 2, 4, seed):
            found.append((plank, weights, [chance.choice((0, 1, 2, 3, 10 ** 6)) for _ in range(plank.count())]))
        return found

    def test_a_plank(self):
        self.assertEqual(mended(PLANK, WEIGHTS, each=EACH)[:3], ("mended", 5, [1, 1, 0]))
        self.assertEqual(mended(PLANK, WEIGHTS, each=[0, 0, 0])[:2], ("mended", 0))
        self.assertEqual(mended(Plank(10, [], bend=(1, 1)), WEIGHTS, each=[]), ("none", {}))
        self.assertEqual(mended(Plank(10, [], bend=None), WEIGHTS, each=[]), ("mended", 0, [], {(-1, 0): 0}))
        told = mended(Plank(10, [(3, (9, 1))], bend=(1, 10)), WEIGHTS, each=[1])
        self.assertEqual(told, ("none", {(-1, 0): 0}))

    def test_whole_measures(self):
        for weight, many in (((1, 1), 0), ((10 ** 39 + 1, 10 ** 39), 1), ((2, 1), 1), ((5, 2), 2), ((3, 1), 2), ((7, 2), 3)):
            told = mended(Plank(10, [(5, (1, 1))], bend=(0, 1)), [((5, 1), weight)], each=[7])
            self.assertEqual(told[:3], ("mended", 7 * many, [many]))

    def test_against_all_lots(self):
        kinds, tied = set(), 0
        for plank, weights, each in self.planks(105):
            told = mended(plank, weights, each=each)
            right = mendings(plank, weights, each)
            paper = Paper(weights, plank.length(), plank.bend(), plank.props(), each=each)
            self.assertIs(type(told), tuple)
            if right:
                self.assertEqual(told[:3], ("mended", *min(right)))
                self.assertEqual((len(told), type(told[2]), type(told[3])), (4, list, dict))
                self.assertEqual(paper.told(told[3]), ("least", told[1]))
                tied += len({tuple(measures) for price, measures in right if price == min(right)[0]}) > 1
                strengths = [pair(Fraction(*strength) + many) for (_, strength), many in zip(plank.props(), told[2])]
                strong = plank.strengthened(strengths)
                lot = plainly.standing(strong, weights, everything(plank))
                self.assertTrue(bends_hold(strong, weights, lot, plank.bend()))
            else:
                self.assertEqual((told[0], len(told)), ("none", 2))
                self.assertEqual(paper.told(told[1]), ("none",))
            self.assertEqual(mend_barred(plank, weights, told[-1], each=each), paper.told(told[-1]))
            kinds.add((told[0], sum(many > 0 for many in told[2]) if right else 0))
        self.assertTrue({("none", 0), ("mended", 0), ("mended", 1), ("mended", 2)} <= kinds, kinds)
        self.assertTrue(tied)

    def test_no_lesser_measures_hold(self):
        for plank, weights, each in self.planks(106, 12):
            told = mended(plank, weights, each=each)
            if told[0] == "mended" and plank.count() <= 3:
                for measures in product(range(3), repeat=plank.count()):
                    price = sum(many * one for many, one in zip(measures, each))
                    if (price, list(measures)) < (told[1], told[2]):
                        strong = plank.strengthened([pair(Fraction(*strength) + many)
                                                     for (_, strength), many in zip(plank.props(), measures)])
                        lot = plainly.standing(strong, weights, everything(plank))
                        self.assertFalse(bends_hold(strong, weights, lot, plank.bend()))

    def test_prices_with_one_thing_otherwise(self):
        seen = set()
        for plank, weights, each in self.planks(107, 14):
            told = mended(plank, weights, each=each)
            paper = Paper(weights, plank.length(), plank.bend(), plank.props(), each=each)
            for thing in changed_papers(told[-1], plank.count()):
                right = paper.told(thing)
                self.assertEqual(mend_barred(plank, weights, thing, each=each), right)
                seen.add((told[0], right and right[0]))
        self.assertTrue({("mended", None), ("mended", "least")} <= seen, seen)

    def test_a_greater_price_never_costs_less(self):
        for plank, weights, each in self.planks(108, 30):
            told = mended(plank, weights, each=each)
            dearer = mended(plank, weights, each=[min(price + 1, 10 ** 6) for price in each])
            self.assertTrue(told[0] == "none" or told[1] <= dearer[1])
            heavier = mended(plank, weights + [((1, 1), (1, 2))], each=each)
            self.assertTrue(heavier[0] == "none" or told[1] <= heavier[1])


if __name__ == "__main__":
    unittest.main()
