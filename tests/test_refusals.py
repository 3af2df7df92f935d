"""What the later modules refuse, in which order; names and arguments; that nothing is kept [2, 13, interface]."""

import copy
import inspect
import unittest

from odd import Agreeable, Quarrelsome, no_fractions, no_fractions_from_nought, odd_things
from propfall import carts, further, lifts, likeness, loadings, menus, saved
from propfall.errors import (FallError, NoCart, NoDeed, NoLoadings, NoLot, NoMenu, NoPlace, NoPlank, NoProp, NoRow,
                             NoStrengths, NoWeight, NoWeights)
from propfall.planks import Plank

# Prop 1 falls at first, the other three stand; what is handed in is right.
PLANK = Plank(10, [(2, (3, 1)), (4, (0, 1)), (6, (9, 8)), (8, (5, 1))], bend=(3, 1))
WEIGHTS = [((2, 1), (1, 1)), ((4, 1), (1, 1)), ((8, 1), (2, 1)), ((0, 1), (7, 1))]
LOADINGS = [WEIGHTS, [], [((5, 1), (1, 3))]]
CART = [((0, 1), (2, 1)), ((1, 2), (1, 1)), ((3, 1), (1, 3)), ((40, 1), (9, 1))]
CARTS = [(CART, (1, 1), (9, 1)), (CART[:1], (10, 1), (0, 1))]
DEEDS = [("put", 0), ("put", 2), ("take", 0)]
MENU = [(3, (9, 1), 5), (6, (9, 1), 7), (3, (1, 1), 0)]

NO_LOTS = [True, False, 0, 1, 1.0, "", "01", b"", [], [0], [0, 1, 2], {}, {0: 1}, {0, 1}, frozenset((0, 1)), range(2),
           iter((0, 1)), Quarrelsome(), Agreeable(), object(), (1, 0), (0, 0), (2, 1), (0, 2, 1), (0, 1, 1), (4,),
           (-1,), (0, 4), (-1, 0), (0, 1, 2, 3, 4), (True,), (False, 1), (0, True), (1.0,), ("0",), (None,), ((0,),),
           ([],), ({},), (0, Quarrelsome()), (Agreeable(),), (10 ** 50,)]
NO_PROPS = [thing for thing in odd_things() if thing is not None] + [4, -1, 10 ** 50, [0], (0,), (0, 1), "0"]
NO_THINGS = odd_things() + [0, [], (Quarrelsome(),), (Agreeable(),), [Quarrelsome()], [Agreeable()]]


def no_weights():
    """Tell tuples (thing, at) of what are no weights."""
    found = [(thing, -1) for thing in odd_things() + [0, tuple(WEIGHTS), dict(WEIGHTS), iter(WEIGHTS)]]
    for thing in odd_things() + [0, [], [(1, 1), (1, 1)], ((1, 1),), ((1, 1), (1, 1), (1, 1)), ((11, 1), (1, 1)),
                                 ((1, 1), (0, 1)), ((-1, 1), (1, 1)), ((1, 1), (2, 2))]:
        found += [([thing], 0), ([WEIGHTS[0], thing], 1), (WEIGHTS + [thing, thing], 4)]
    return found


def no_loadings():
    """Tell tuples (thing, at) of what are no loadings."""
    found = [(thing, -1) for thing in odd_things() + [0, [], [[]] * 9, [None] * 9, tuple(LOADINGS), {0: []}]]
    for thing, _ in no_weights():
        found += [([thing], 0), (LOADINGS + [thing, thing], 3), ([[]] * 7 + [thing], 7)]
    return found


def no_carts():
    """Tell tuples (thing, at) of what is no cart."""
    found = [(thing, -1) for thing in odd_things() + [0, [], CART + [((50, 1), (1, 1))], [None] * 5, tuple(CART), {0: 1}]]
    axles = odd_things() + [[(50, 1), (1, 1)], ((50, 1),), ((50, 1), (1, 1), (1, 1)), ((50, 1), (0, 1)), ((50, 1), (-1, 1)),
                            ((-1, 1), (1, 1)), ((50, 1), (2, 2)), ((100, 2), (1, 1)), (50, 1), ((50, 1), 1), ((50, True), (1, 1))]
    for thing in axles:
        found += [([thing], 0), ([thing] + CART[1:], 0), (CART[:1] + [thing, thing], 1), (CART[:3] + [thing], 3)]
    # The first one's behind is nought, each next one's above the one ahead.
    found += [(CART[1:], 0), ([((1, 10 ** 39), (1, 1))], 0), (CART[:1] * 2, 1), (CART[:2] + CART[1:2], 2),
              ([CART[0], CART[2], CART[1], None], 2), ([CART[0], CART[3], ((79, 2), (1, 1))], 2)]
    return found


def no_cart_lists():
    """Tell tuples (thing, at) of what are no carts with their ways."""
    found = [(thing, -1) for thing in odd_things() + [0, [], CARTS * 2, [None] * 4, tuple(CARTS), {0: 1}]]
    for thing in odd_things() + [[CART, (1, 1), (9, 1)], (CART, (1, 1)), (CART, (1, 1), (9, 1), None), CART, 0]:
        if type(thing) is not tuple or len(thing) != 3:
            found += [([thing], -1), (CARTS + [thing], -1), ([(None, None, None), thing], -1)]
    for thing, at in no_carts():
        found += [([(thing, (1, 1), (9, 1))], at), ([CARTS[0], (thing, None, None), (None, None, None)], at)]
    return found


def places_in_carts():
    """Tell tuples (thing, place) of carts of which a place is none, the one that is told."""
    found = []
    for place in no_fractions_from_nought() + [(11, 1), 3]:
        found += [([(CART, place, (9, 1))], place), ([(CART, place, None), (None, None, None)], place),
                  ([CARTS[0], (CART, (1, 1), place), (None, None, None)], place)]
    return found


def no_deeds():
    """Tell tuples (thing, at) of what are no deeds."""
    found = [(thing, -1) for thing in odd_things() + [0, tuple(DEEDS), [None] * 41, {0: 1}]]
    return found + [([thing], 0) for thing in odd_things()] + [(DEEDS + [("take", 0), None], 3), (DEEDS + [None], 3)]


def no_menus():
    """Tell tuples (thing, at) of what are no menus."""
    found = [(thing, -1) for thing in odd_things() + [0, tuple(MENU), {0: MENU[0]}]]
    return found + [([thing, None], 0) for thing in odd_things()] + [(MENU * 8 + MENU[:1], 24), (MENU + [MENU[0][:2]], 3)]


# Of each kind: the refusal, its field, and tuples (what is refused, what the
# field then is); where that is told as SAME, it is what was handed in.
SAME = object()
KINDS = {
    "weights": (NoWeights, "at", no_weights()),
    "loadings": (NoLoadings, "at", no_loadings()),
    "place": (NoPlace, "place", [(thing, SAME) for thing in no_fractions_from_nought() + [(11, 1), (101, 10), 3]]),
    "weight": (NoWeight, None, [(thing, None) for thing in no_fractions() + [(0, 1), (-1, 1), (-1, 10 ** 39)]]),
    "prop": (NoProp, "prop", [(thing, SAME) for thing in NO_PROPS + [None]]),
    "standing": (NoProp, "prop", [(thing, SAME) for thing in NO_PROPS + [None, 1]]),
    "perhaps": (NoProp, "prop", [(thing, SAME) for thing in NO_PROPS + [1]]),
    "some": (NoLot, None, [(thing, None) for thing in NO_LOTS + [None, ()]]),
    "taken": (NoLot, None, [(thing, None) for thing in NO_LOTS + [None, (1,), (0, 1), (0, 1, 2, 3)]]),
    "lot": (NoLot, None, [(thing, None) for thing in NO_LOTS]),
    "told": (NoLot, None, [(thing, None) for thing in NO_LOTS + [None]]),
    "cart": (NoCart, "at", no_carts()),
    "carts": (NoCart, "at", no_cart_lists()),
    "ways": (NoPlace, "place", places_in_carts()),
    "row": (NoRow, None, [(thing, None) for thing in odd_things() + [0, (0,), [3], [-1], [True], [0] * 41, [None]]]),
    "deeds": (NoDeed, "at", no_deeds()),
    "length": (NoPlank, "part", [(thing, "length") for thing in odd_things() + [0, 1, 1001, (10, 1)]]),
    "bend": (NoPlank, "part", [(thing, "bend") for thing in odd_things() + [3, (-1, 1), (2, 2)] if thing is not None]),
    "menu": (NoMenu, "at", no_menus()),
    "each": (NoMenu, "at", [(thing, -1) for thing in odd_things() + [0, [], [1] * 3, [None] * 5, (1,) * 4]]
             + [([1, 0, thing, None], 2) for thing in odd_things() + [-1, 10 ** 6 + 1, (1, 1)]]),
    "strengths": (NoStrengths, None, [(thing, None) for thing in odd_things() + [[], [(1, 1)] * 3, [(1, 1)] * 3 + [(-1, 1)]]]),
    "lists": (NoWeights, "at", [(thing, -1) for thing in odd_things() + [0, tuple(LOADINGS)]]
              + [(LOADINGS + [thing, None], at) for thing, at in no_weights()])}

ROLL = {"cart": CART, "start": (1, 1), "goal": (10, 1), "lot": (0, 1, 2, 3)}
SHOP = {"length": 10, "bend": (4, 1), "menu": MENU}
NEVER = loadings.fewest(PLANK, LOADINGS, prop=0, stays=(0, 1))[1]
PRICES = menus.cheapest(WEIGHTS, **SHOP)[3]
MENDING = menus.mended(PLANK, WEIGHTS, each=[1, 2, 3, 4])[3]

# Of each function: its parameters as the interface has them; what is right of
# them, by name; the kinds that are refused, in their order.
CALLS = {
    lifts.lifted: ("plank, weights, *, taken", {"taken": (0,)}, "weights taken"),
    lifts.needs: ("plank, weights", {}, "weights"),
    lifts.classes: ("plank, weights", {}, "weights"),
    lifts.holders: ("plank, weights, *, prop=None", {"prop": 2}, "weights prop:perhaps"),
    lifts.fellers: ("plank, weights, *, prop=None", {"prop": 2}, "weights prop:perhaps"),
    lifts.is_holder: ("plank, weights, thing, *, prop=None", {"thing": (2, 3), "prop": 2}, "weights prop:perhaps"),
    lifts.is_feller: ("plank, weights, thing, *, prop=None", {"thing": (3,), "prop": 2}, "weights prop:perhaps"),
    lifts.shows_left: ("plank, weights, thing, *, taken, prop=None", {"thing": (2, 3), "taken": (0,), "prop": 2},
                       "weights prop:perhaps taken"),
    further.further: ("plank, weights, place", {"place": (3, 1)}, "weights place"),
    further.safe: ("plank, weights, weight", {"weight": (3, 1)}, "weights weight"),
    further.most_borne: ("plank, weights", {}, "weights"),
    further.mapped: ("plank, weights, weight", {"weight": (3, 1)}, "weights weight"),
    further.lots_left: ("plank, weights, weight", {"weight": (3, 1)}, "weights weight"),
    further.is_further: ("plank, weights, place, thing", {"place": (0, 1), "thing": [([1], (0, 2, 3), None)]},
                         "weights place"),
    further.felled: ("plank, weights, place, prop", {"place": (3, 1), "prop": 2}, "weights place prop:standing"),
    further.weakest: ("plank, weights", {}, "weights"),
    saved.sharp: ("plank, weights, prop", {"prop": 1}, "weights prop"),
    saved.corner: ("plank, weights, lot", {"lot": (0, 1)}, "weights lot:some"),
    saved.least_more: ("plank, weights, lot", {"lot": (0, 1)}, "weights lot:some"),
    saved.steady: ("plank, loadings, lot", {"lot": (0, 1)}, "loadings lot:some"),
    saved.saved_by: ("plank, weights, prop", {"prop": 1}, "weights prop"),
    saved.fair: ("plank, loadings, lot", {"lot": (0, 1)}, "loadings lot:some"),
    saved.is_sharp: ("plank, weights, prop, thing", {"prop": 1, "thing": ((1, 1), (0, 1, 2, 3), [], (0, 2, 3), [])},
                     "weights prop"),
    carts.rolled: ("plank, weights, *, cart, start, goal, lot=None", ROLL, "weights lot cart start:place goal:place"),
    carts.holds_to: ("plank, weights, *, cart, start, goal, lot=None", ROLL, "weights lot cart start:place goal:place"),
    carts.fault_of: ("plank, weights, thing, *, cart, start, goal, lot=None",
                     {**ROLL, "thing": carts.rolled(PLANK, WEIGHTS, **ROLL)},
                     "weights lot cart start:place goal:place"),
    carts.again_and_again: ("plank, weights, *, cart, start, goal, back=True, lot=None", {**ROLL, "back": True},
                            "weights lot cart start:place goal:place"),
    carts.for_ever: ("plank, weights, carts, *, lot=None", {"carts": CARTS, "lot": (0, 1, 2, 3)}, "weights lot carts"),
    carts.is_for_ever: ("plank, weights, carts, thing, *, lot=None",
                        {"carts": CARTS, "lot": (0, 1, 2, 3), "thing": carts.for_ever(PLANK, WEIGHTS, CARTS)},
                        "weights lot carts"),
    loadings.left_behind: ("plank, loadings, *, row", {"row": [0, 1, 2, 2]}, "loadings row"),
    loadings.rounds: ("plank, loadings, *, row", {"row": [0, 1, 2, 2]}, "loadings row"),
    loadings.orders: ("plank, loadings", {}, "loadings"),
    loadings.why_not: ("plank, loadings, *, prop", {"prop": 1}, "loadings prop"),
    loadings.done: ("plank, loadings, *, deeds", {"deeds": DEEDS}, "loadings deeds"),
    loadings.fewest: ("plank, loadings, *, prop, stays=()", {"prop": 0, "stays": (2,)}, "loadings prop stays:told"),
    loadings.is_never: ("plank, loadings, thing, *, prop, stays=()", {"prop": 0, "stays": (0, 1),
                                                                              "thing": NEVER}, "loadings prop stays:told"),
    menus.cheapest: ("weights, *, length, bend, menu", SHOP, "length bend menu weights"),
    menus.barred: ("weights, thing, *, length, bend, menu", {**SHOP, "thing": PRICES}, "length bend menu weights"),
    menus.mended: ("plank, weights, *, each", {"each": [1, 2, 3, 4]}, "weights each"),
    menus.mend_barred: ("plank, weights, thing, *, each", {"each": [1, 2, 3, 4], "thing": MENDING},
                        "weights each"),
    likeness.gathered: ("plank, weights", {}, "weights"),
    likeness.likeness: ("plank, one, other", {"one": WEIGHTS, "other": WEIGHTS[1:]}, "one:weights other:weights"),
    likeness.is_parting: ("plank, one, other, strengths", {"one": WEIGHTS, "other": [], "strengths": [(1, 1)] * 4},
                          "one:weights other:weights strengths"),
    likeness.likened: ("plank, lists", {"lists": LOADINGS * 2}, "lists"),
    likeness.left_by: ("plank, weights, place, lot", {"place": (3, 1), "lot": (0, 2, 3)}, "weights lot:told place")}
LISTED = {
    "propfall.lifts": "lifted needs classes holders fellers is_holder is_feller shows_left",
    "propfall.further": "further safe most_borne mapped lots_left is_further felled weakest",
    "propfall.saved": "sharp corner least_more steady saved_by fair is_sharp",
    "propfall.carts": "rolled holds_to fault_of again_and_again for_ever is_for_ever",
    "propfall.loadings": "left_behind rounds orders why_not done fewest is_never",
    "propfall.menus": "cheapest barred mended mend_barred",
    "propfall.likeness": "gathered likeness is_parting likened left_by"}

# What is told of a right thing and of a wrong one, where that is no truth.
JUDGED = {carts.fault_of: (None, ("form",)), menus.barred: (("least", 5), None), menus.mend_barred: (("least", 0), None)}


def first_weights(things):
    """Tell the first list of weights in what is handed in."""
    found = [things[name] for name in ("weights", "one") if name in things]
    return (found + [things[name][0] for name in ("loadings", "lists") if name in things])[0]


def right_things(asked):
    """Tell a dict from the names of what a function is handed to what is right of each, all of it new."""
    things = {"plank": PLANK, "weights": WEIGHTS, "loadings": LOADINGS, **CALLS[asked][1]}
    names = inspect.signature(asked).parameters
    return {name: copy.deepcopy(thing) if name != "plank" else thing for name, thing in things.items() if name in names}


def call(asked, things):
    """Call a function by what is handed in, what stands behind its star by name."""
    by_place, by_name = [], {}
    for name, parameter in inspect.signature(asked).parameters.items():
        if parameter.kind == inspect.Parameter.KEYWORD_ONLY:
            by_name[name] = things[name]
        else:
            by_place.append(things[name])
    return asked(*by_place, **by_name)


def refusals_of(asked):
    """Tell the tuples (name, kind) of what a function refuses, in their order."""
    return [(one.split(":")[0], one.split(":")[-1]) for one in CALLS[asked][2].split()]


def changed_throughout(thing):
    """Change each list and dict in what was told."""
    if isinstance(thing, (list, tuple)):
        for one in thing:
            changed_throughout(one)
    if isinstance(thing, list):
        thing.append("changed")
    if isinstance(thing, dict):
        thing["changed"] = True


class Interface(unittest.TestCase):
    def test_names_and_arguments(self):
        for asked, (parameters, _, _) in CALLS.items():
            self.assertEqual(str(inspect.signature(asked)), f"({parameters})", asked)

    def test_each_is_defined_where_it_is_listed(self):
        for module, names in LISTED.items():
            defined = {asked.__name__ for asked in CALLS if asked.__module__ == module}
            self.assertEqual(defined, set(names.split()))
        self.assertEqual(sum(len(names.split()) for names in LISTED.values()), len(CALLS))

    def test_right_things_are_let_by(self):
        for asked in CALLS:
            call(asked, right_things(asked))


class Refusals(unittest.TestCase):
    def refused(self, asked, things, refusal, field, told):
        with self.assertRaises(FallError) as caught:
            call(asked, things)
        self.assertIs(type(caught.exception), refusal, (asked, things))
        self.assertEqual(refusal.__bases__, (FallError,))
        if field is not None:
            self.assertTrue(getattr(caught.exception, field) is told or type(told) is int
                            and getattr(caught.exception, field) == told, (asked, told))

    def test_each_kind_behind_what_is_right(self):
        for asked in CALLS:
            for name, kind in refusals_of(asked):
                refusal, field, wrong = KINDS[kind]
                for thing, told in wrong:
                    things = right_things(asked)
                    things[name] = thing
                    self.refused(asked, things, refusal, field, thing if told is SAME else told)

    def test_each_kind_ahead_of_all_behind_it(self):
        for asked in CALLS:
            order = refusals_of(asked)
            judged = [name for name in right_things(asked) if name not in [one for one, _ in order] + ["plank"]]
            for at, (name, kind) in enumerate(order):
                refusal, field, wrong = KINDS[kind]
                for thing, told in wrong[::7] + wrong[-1:]:
                    for odd in (Quarrelsome(), None, (1,), [], (2, 2), Agreeable()):
                        things = right_things(asked)
                        things[name] = thing
                        for other in [other for other, _ in order[at + 1:]] + judged:
                            things[other] = odd
                        self.refused(asked, things, refusal, field, thing if told is SAME else told)

    def test_no_prop_told_is_let_by(self):
        for asked in CALLS:
            if ("prop", "perhaps") in refusals_of(asked):
                things = right_things(asked)
                things["prop"] = None
                told = call(asked, things)
                del things["prop"]
                by_place = [thing for name, thing in things.items() if name != "taken"]
                by_name = {name: thing for name, thing in things.items() if name == "taken"}
                if "thing" not in things:
                    self.assertEqual(asked(*by_place, **by_name), told)

    def test_what_is_judged_is_never_refused(self):
        for asked in CALLS:
            if "thing" in right_things(asked):
                for thing in NO_THINGS:
                    things = right_things(asked)
                    things["thing"] = thing
                    self.assertEqual(call(asked, things), JUDGED.get(asked, (True, False))[1], (asked, thing))

    def test_a_further_weight_of_the_least_and_the_greatest_kind(self):
        for asked in (further.safe, further.mapped, further.lots_left):
            for weight in ((1, 10 ** 39), (10 ** 40 - 1, 1), (10 ** 40 - 1, 10 ** 39)):
                self.assertIs(type(asked(PLANK, WEIGHTS, weight)), list)


class NothingIsKept(unittest.TestCase):
    def test_what_is_handed_in_stays_as_it_was(self):
        for asked in CALLS:
            things = right_things(asked)
            call(asked, things)
            self.assertEqual(things, right_things(asked))

    def test_asked_again_the_same_is_told_though_what_was_told_is_changed(self):
        for asked in CALLS:
            things = right_things(asked)
            first = call(asked, things)
            was = copy.deepcopy(first)
            changed_throughout(first)
            self.assertEqual(things, right_things(asked))
            self.assertEqual(call(asked, things), was)
            self.assertEqual(call(asked, right_things(asked)), was)

    def test_the_same_lists_changed_are_asked_as_they_are_then(self):
        for asked in CALLS:
            things = right_things(asked)
            things.pop("thing", None)
            if "thing" in right_things(asked):
                continue
            call(asked, things)
            changed = first_weights(things)
            changed.append(((9, 1), (1, 1)))
            new = right_things(asked)
            first_weights(new).append(((9, 1), (1, 1)))
            self.assertEqual(call(asked, things), call(asked, new))
            changed.append(None)
            self.assertRaises(FallError, call, asked, things)

    def test_what_is_judged_stays_as_it_was_and_may_be_changed(self):
        for asked in CALLS:
            things = right_things(asked)
            if "thing" in things:
                was = copy.deepcopy(things["thing"])
                self.assertEqual(call(asked, things), JUDGED.get(asked, (True, False))[0], asked)
                self.assertEqual(things["thing"], was)
                changed_throughout(things["thing"])
                if things["thing"] != was:
                    self.assertEqual(call(asked, things), JUDGED.get(asked, (True, False))[1], asked)
        told = saved.sharp(PLANK, WEIGHTS, 0)
        self.assertIs(saved.is_sharp(PLANK, WEIGHTS, 0, told), True)
        told[2].append(0)
        self.assertIs(saved.is_sharp(PLANK, WEIGHTS, 0, told), False)


if __name__ == "__main__":
    unittest.main()
