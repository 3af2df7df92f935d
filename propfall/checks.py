"""What may be handed in with a plank: weights, places, lots, props, and their refusals."""

from propfall.errors import NoCart, NoLoadings, NoLot, NoPlace, NoProp, NoWeight, NoWeights
from propfall.fractions import NOUGHT, is_below, is_from_nought, is_pair, is_whole, of_whole

MOST_LOADINGS = 8
MOST_AXLES = 4
MOST_CARTS = 3


def is_place(plank, thing):
    """Tell whether a thing of any kind is a place on the plank."""
    return is_from_nought(thing) and not is_below(of_whole(plank.length()), thing)


def is_above_nought(thing):
    """Tell whether a thing of any kind is a fraction above nought."""
    return is_from_nought(thing) and thing[0] > 0


def _is_weight(plank, thing):
    """Tell whether a thing of any kind is a weight at a place on the plank."""
    if not is_pair(thing):
        return False
    place, weight = thing
    return is_place(plank, place) and is_above_nought(weight)


def _fault_in_weights(plank, thing):
    """Tell, of a thing of any kind, the place of the first that is no weight, -1 of no list, None of weights."""
    if type(thing) is not list:
        return -1
    for at, weight in enumerate(thing):
        if not _is_weight(plank, weight):
            return at
    return None


def check_weights(plank, weights):
    """Refuse what are no weights on the plank."""
    fault = _fault_in_weights(plank, weights)
    if fault is not None:
        raise NoWeights(fault)


def check_loadings(plank, loadings):
    """Refuse what are no loadings of the plank."""
    if type(loadings) is not list or not 1 <= len(loadings) <= MOST_LOADINGS:
        raise NoLoadings(-1)
    for at, loading in enumerate(loadings):
        if _fault_in_weights(plank, loading) is not None:
            raise NoLoadings(at)


def check_place(plank, place):
    """Refuse what is no place on the plank."""
    if not is_place(plank, place):
        raise NoPlace(place)


def check_weight(weight):
    """Refuse what is no further weight above nought."""
    if not is_above_nought(weight):
        raise NoWeight()


def is_prop_of(lot, thing):
    """Tell whether a thing of any kind is a prop of the lot."""
    return is_whole(thing) and thing in lot


def is_lot_of(lot, thing):
    """Tell whether a thing of any kind is a lot of some props of the lot, perhaps of none."""
    if type(thing) is not tuple:
        return False
    for at, prop in enumerate(thing):
        if not is_prop_of(lot, prop):
            return False
        if at > 0 and not thing[at - 1] < prop:
            return False
    return True


def all_props(plank):
    """Tell the lot of all props of the plank."""
    return tuple(range(plank.count()))


def lot_of(plank, lot):
    """Tell the lot that is asked for, all props where none is told; refuse what is no lot."""
    if lot is None:
        return all_props(plank)
    if not is_lot_of(all_props(plank), lot):
        raise NoLot()
    return lot


def check_lot_of_some(plank, lot):
    """Refuse what is no lot, or the bare one."""
    if not is_lot_of(all_props(plank), lot) or not lot:
        raise NoLot()


def check_prop(lot, prop):
    """Refuse what is no prop of the lot."""
    if not is_prop_of(lot, prop):
        raise NoProp(prop)


def _is_axle(thing, ahead):
    """Tell whether a thing of any kind is an axle farther behind than the one ahead, the first one where None is."""
    if not is_pair(thing):
        return False
    behind, weight = thing
    if not is_from_nought(behind) or not is_above_nought(weight):
        return False
    return behind == NOUGHT if ahead is None else is_below(ahead, behind)


def _check_cart(cart):
    """Refuse what is no cart."""
    if type(cart) is not list or not 1 <= len(cart) <= MOST_AXLES:
        raise NoCart(-1)
    ahead = None
    for at, axle in enumerate(cart):
        if not _is_axle(axle, ahead):
            raise NoCart(at)
        ahead = axle[0]


def check_roll(plank, cart, start, goal):
    """Refuse what is no cart, or no place to start from or to roll to."""
    _check_cart(cart)
    check_place(plank, start)
    check_place(plank, goal)


def check_carts(plank, carts):
    """Refuse what are no carts with places to start from and to roll to."""
    if type(carts) is not list or not 1 <= len(carts) <= MOST_CARTS:
        raise NoCart(-1)
    if any([type(roll) is not tuple or len(roll) != 3 for roll in carts]):
        raise NoCart(-1)
    for cart, start, goal in carts:
        check_roll(plank, cart, start, goal)
