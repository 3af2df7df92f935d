"""What may be handed in with a plank: weights, places, lots, props, and their refusals."""

from propfall.errors import NoLot, NoPlace, NoProp, NoWeights
from propfall.fractions import is_below, is_fraction, is_from_nought, is_pair, is_whole, of_whole


def is_place(plank, thing):
    """Tell whether a thing of any kind is a place on the plank."""
    return is_from_nought(thing) and not is_below(of_whole(plank.length()), thing)


def _is_weight(plank, thing):
    """Tell whether a thing of any kind is a weight at a place on the plank."""
    if not is_pair(thing):
        return False
    place, weight = thing
    return is_place(plank, place) and is_fraction(weight) and weight[0] > 0


def check_weights(plank, weights):
    """Refuse what are no weights on the plank."""
    if type(weights) is not list:
        raise NoWeights(-1)
    for at, weight in enumerate(weights):
        if not _is_weight(plank, weight):
            raise NoWeights(at)


def check_place(plank, place):
    """Refuse what is no place on the plank."""
    if not is_place(plank, place):
        raise NoPlace(place)


def is_prop_of(lot, thing):
    """Tell whether a thing of any kind is a prop of the lot."""
    return is_whole(thing) and thing in lot


def is_lot_of(lot, thing):
    """Tell whether a thing of any kind is a lot of some props of the lot, perhaps of none."""
    if type(thing) is not tuple:
        return False
    for at, prop in enumerate(thing):
        if not is_prop_of(lot, prop):
            return False
        if at > 0 and not thing[at - 1] < prop:
            return False
    return True


def all_props(plank):
    """Tell the lot of all props of the plank."""
    return tuple(range(plank.count()))


def lot_of(plank, lot):
    """Tell the lot that is asked for, all props where none is told; refuse what is no lot."""
    if lot is None:
        return all_props(plank)
    if not is_lot_of(all_props(plank), lot):
        raise NoLot()
    return lot


def check_prop(lot, prop):
    """Refuse what is no prop of the lot."""
    if not is_prop_of(lot, prop):
        raise NoProp(prop)
