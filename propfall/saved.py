"""What saves props: how strong one must be to stand, or several of them, under one loading or under more."""

from propfall.bearing import Bearing, asked
from propfall.checks import all_props, check_loadings, check_lot_of_some, check_prop, check_weights, is_lot_of
from propfall.fractions import NOUGHT, is_below, is_fraction, minus, plus
from propfall.overlaying import Sparing, UnderAny
from propfall.rows import but, givings_from, is_whole_row, left_of, without


def _asked_of(plank, weights, prop):
    """Tell the bearing and all props, where nothing is to be refused."""
    bearing, everything = asked(plank, weights, None)
    check_prop(everything, prop)
    return bearing, everything


def _strength(plank, prop):
    """Tell a prop's strength."""
    return plank.props()[prop][1]


def _corner(bearing, everything, lot):
    """Tell (numbers, left, row): what lies on a lot's props, were they as strong as one likes; what stands then."""
    row = givings_from(Sparing(bearing, lot), everything)
    left = but(everything, row)
    laid = dict(bearing.borne(left))
    return ([(prop, laid[prop]) for prop in lot], left, row)


def _sharp(bearing, everything, prop):
    """Tell what a prop's strength does."""
    numbers, lot, row = _corner(bearing, everything, (prop,))
    others = without(everything, prop)
    its = givings_from(bearing, others)
    return (numbers[0][1], lot, row, but(others, its), its)


def sharp(plank, weights, prop):
    """Tell (strength, lot, row, other, its): the least strength by which a prop stands; what stands by it, by less."""
    bearing, everything = _asked_of(plank, weights, prop)
    return _sharp(bearing, everything, prop)


def is_sharp(plank, weights, prop, thing):
    """Tell, of anything, whether it is what a prop's strength does, its rows in any order that goes."""
    bearing, everything = _asked_of(plank, weights, prop)
    if type(thing) is not tuple or len(thing) != 5:
        return False
    strength, lot, row, other, its = thing
    if not is_fraction(strength) or not is_lot_of(everything, lot) or not is_lot_of(everything, other):
        return False
    right = _sharp(bearing, everything, prop)
    return ((strength, lot, other) == (right[0], right[1], right[3])
            and is_whole_row(Sparing(bearing, (prop,)), everything, row)
            and is_whole_row(bearing, without(everything, prop), its))


def saved_by(plank, weights, prop):
    """Tell a list of tuples (r, more): each prop by which a prop that falls is saved, and how much more it needs."""
    bearing, everything = _asked_of(plank, weights, prop)
    if prop in left_of(bearing, everything):
        return []
    found = []
    for other in everything:
        numbers, lot, _ = _corner(bearing, everything, (other,))
        if prop in lot:
            found.append((other, minus(numbers[0][1], _strength(plank, other))))
    return found


def _asked_of_lot(plank, weights, lot):
    """Tell the bearing, where nothing is to be refused."""
    check_weights(plank, weights)
    check_lot_of_some(plank, lot)
    return Bearing(plank, weights)


def corner(plank, weights, lot):
    """Tell (numbers, left, row): the least strengths by which all of a lot stand, and what stands then."""
    return _corner(_asked_of_lot(plank, weights, lot), all_props(plank), lot)


def least_more(plank, weights, lot):
    """Tell (a list of tuples (prop, more), sum): how much more strength a lot's props need to stand all."""
    numbers, _, _ = corner(plank, weights, lot)
    found = []
    total = NOUGHT
    for prop, strength in numbers:
        more = minus(strength, _strength(plank, prop))
        if more[0] < 0:
            more = NOUGHT
        found.append((prop, more))
        total = plus(total, more)
    return (found, total)


def _asked_of_loadings(plank, loadings, lot):
    """Tell a list of the loadings' bearings, where nothing is to be refused."""
    check_loadings(plank, loadings)
    check_lot_of_some(plank, lot)
    return [Bearing(plank, weights) for weights in loadings]


def _greatest(corners):
    """Tell a list of tuples (prop, strength, which): the greatest number of each prop, the first list that has it."""
    found = [(prop, strength, 0) for prop, strength in corners[0]]
    for which, numbers in enumerate(corners):
        found = [(prop, strength, which) if is_below(known[1], strength) else known
                 for (prop, strength), known in zip(numbers, found)]
    return found


def fair(plank, loadings, lot):
    """Tell a list of tuples (prop, strength, which): the least strengths by which a lot stands under each loading."""
    bearings = _asked_of_loadings(plank, loadings, lot)
    return _greatest([_corner(bearing, all_props(plank), lot)[0] for bearing in bearings])


def steady(plank, loadings, lot):
    """Tell (numbers, left): the least strengths by which a lot stands under all loadings for ever; what stands."""
    bearings = _asked_of_loadings(plank, loadings, lot)
    left = left_of(Sparing(UnderAny(bearings), lot), all_props(plank))
    laid = [dict(bearing.borne(left)) for bearing in bearings]
    return (_greatest([[(prop, on[prop]) for prop in lot] for on in laid]), left)
