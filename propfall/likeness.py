"""Loadings gathered on the rests, when two of them are alike, and what a lot that is seen tells of a weight."""

from propfall.bearing import Bearing
from propfall.checks import all_props, check_place, check_weights, is_lot_of
from propfall.errors import NoLot, NoWeights
from propfall.fractions import NOUGHT, lesser, of_whole, plus
from propfall.pressing import Pressing
from propfall.rows import left_of

ALIKE = "alike"
PARTED = "parted"


def _borne(plank, weights):
    """Tell a list of tuples (rest, fraction): what lies on each rest while all props stand."""
    return Bearing(plank, weights).borne(all_props(plank))


def gathered(plank, weights):
    """Tell weights at the rests that lay as much on each rest as these ones, whatever lot stands."""
    check_weights(plank, weights)
    return [(of_whole(plank.place_of(rest)), laid) for rest, laid in _borne(plank, weights) if laid[0] > 0]


def _on_props(plank, weights):
    """Tell a list of what lies on each prop while all stand."""
    return [laid for _, laid in _borne(plank, weights)][1:-1]


def _all_of(weights):
    """Tell what weights come to."""
    total = NOUGHT
    for _, weight in weights:
        total = plus(total, weight)
    return total


def likeness(plank, one, other):
    """Tell ("alike",), or ("parted", prop, strengths): strengths by which the two leave unlike lots."""
    check_weights(plank, one)
    check_weights(plank, other)
    laid = list(zip(_on_props(plank, one), _on_props(plank, other)))
    unlike = [prop for prop, (here, there) in enumerate(laid) if here != there]
    if not unlike:
        return (ALIKE,)
    # What all weights come to no prop can have more of on it.
    strengths = [plus(_all_of(one), _all_of(other))] * plank.count()
    strengths[unlike[0]] = lesser(laid[unlike[0]][0], laid[unlike[0]][1])
    return (PARTED, unlike[0], strengths)


def is_parting(plank, one, other, strengths):
    """Tell whether by such strengths two weights leave unlike lots."""
    check_weights(plank, one)
    check_weights(plank, other)
    strong = plank.strengthened(strengths)
    everything = all_props(plank)
    return left_of(Bearing(strong, one), everything) != left_of(Bearing(strong, other), everything)


def likened(plank, lists):
    """Tell a sorted list of lists of numbers: which of the weights are alike."""
    if type(lists) is not list:
        raise NoWeights(-1)
    for weights in lists:
        check_weights(plank, weights)
    groups = {}
    for number, weights in enumerate(lists):
        groups.setdefault(tuple(_on_props(plank, weights)), []).append(number)
    return sorted(list(groups.values()))


def left_by(plank, weights, place, lot):
    """Tell (low, high): the further weights at a place by which just a lot is left, None where none leaves it."""
    check_weights(plank, weights)
    if not is_lot_of(all_props(plank), lot):
        raise NoLot()
    check_place(plank, place)
    low = None
    for _, left, most in Pressing(plank, Bearing(plank, weights), place).steps(all_props(plank)):
        if left == lot:
            return (low, most)
        low = most
    return None
