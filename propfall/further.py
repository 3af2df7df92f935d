"""What a further weight does, put on the plank beside the weights that lie there."""

from propfall.bearing import Bearing
from propfall.checks import all_props, check_place, check_prop, check_weight, check_weights, is_lot_of
from propfall.fractions import NOUGHT, greater, is_below, is_fraction, lesser, minus, of_whole, over, plus, times
from propfall.maps import Map
from propfall.pressing import Pressing
from propfall.rows import is_whole_row, left_of


def _pressing(plank, weights, place):
    """Tell what further weights do at a place, where nothing is to be refused."""
    check_weights(plank, weights)
    check_place(plank, place)
    return Pressing(plank, Bearing(plank, weights), place)


def further(plank, weights, place):
    """Tell a list of tuples (row, lot, most): what is left by all further weights at a place, by rising ones."""
    return _pressing(plank, weights, place).steps(all_props(plank))


def _is_most(thing, most):
    """Tell whether a thing of any kind is a told most, a fraction or None."""
    if most is None:
        return thing is None
    return is_fraction(thing) and thing == most


def _is_step(overlaying, lot, step, thing):
    """Tell whether a thing of any kind is a step from a lot on, but that its row may be in any order that goes."""
    if type(thing) is not tuple or len(thing) != 3:
        return False
    row, left, most = thing
    return (is_whole_row(overlaying, lot, row) and is_lot_of(lot, left) and left == step[1]
            and _is_most(most, step[2]))


def is_further(plank, weights, place, thing):
    """Tell, of anything, whether it is what is left by all further weights at a place."""
    pressing = _pressing(plank, weights, place)
    lot = all_props(plank)
    steps = pressing.steps(lot)
    if type(thing) is not list or len(thing) != len(steps):
        return False
    most = None
    for step, told in zip(steps, thing):
        if not _is_step(pressing.overlaying(most), lot, step, told):
            return False
        lot, most = step[1], step[2]
    return True


def felled(plank, weights, place, prop):
    """Tell the greatest further weight at a place by which a prop still stands, None where it never goes."""
    steps = _pressing(plank, weights, place).steps(all_props(plank))
    check_prop(steps[0][1], prop)
    return [most for _, lot, most in steps if prop in lot][-1]


def _stood(plank, weights):
    """Tell the bearing and the lot that stands without a further weight, where nothing is to be refused."""
    check_weights(plank, weights)
    bearing = Bearing(plank, weights)
    return bearing, left_of(bearing, all_props(plank))


def _spares(bearing, lot):
    """Tell a dict from each prop of a lot to what it bears yet while just the lot stands."""
    return {prop: bearing.spare(left, prop, right) for left, prop, right in bearing.around(lot)}


def weakest(plank, weights):
    """Tell (prop, spare) of the first prop with the least spare of those that stand, None where none does."""
    bearing, lot = _stood(plank, weights)
    found = None
    for prop, spare in _spares(bearing, lot).items():
        if found is None or is_below(spare, found[1]):
            found = (prop, spare)
    return found


def _safe_on(plank, spares, left, right, weight):
    """Tell the tuple (left, right, low, high) of a board: where on it a further weight fells nothing."""
    low, high = of_whole(plank.place_of(left)), of_whole(plank.place_of(right))
    length = minus(high, low)
    start, end = low, high
    # A wall has no spare told: it bears whatever lies on it.
    if left in spares:
        low = greater(start, minus(end, times(length, over(spares[left], weight))))
    if right in spares:
        high = lesser(end, plus(start, times(length, over(spares[right], weight))))
    if is_below(high, low):
        return (left, right, None, None)
    return (left, right, low, high)


def safe(plank, weights, weight):
    """Tell for each board a tuple (left, right, low, high): where a further weight fells nothing."""
    bearing, lot = _stood(plank, weights)
    check_weight(weight)
    spares = _spares(bearing, lot)
    return [_safe_on(plank, spares, left, right, weight) for left, right in bearing.ends_of_boards(lot)]


def _most_on(plank, spares, left, right):
    """Tell the tuple (left, right, weight, place) of a board between two props: the most it bears, and where."""
    start, end = of_whole(plank.place_of(left)), of_whole(plank.place_of(right))
    most = plus(spares[left], spares[right])
    if most == NOUGHT:
        return (left, right, most, start)
    return (left, right, most, plus(start, times(minus(end, start), over(spares[right], most))))


def most_borne(plank, weights):
    """Tell for each board between two props a tuple (left, right, weight, place): the most it bears, and where."""
    bearing, lot = _stood(plank, weights)
    spares = _spares(bearing, lot)
    return [_most_on(plank, spares, left, right) for left, right in zip(lot, lot[1:])]


def mapped(plank, weights, weight):
    """Tell a list of tuples (place, at, behind): what is left by a further weight at a place, and behind it."""
    bearing, lot = _stood(plank, weights)
    check_weight(weight)
    return Map(plank, bearing, lot, weight).tuples()


def lots_left(plank, weights, weight):
    """Tell a list of all lots that a further weight leaves at some place, those of more props first."""
    lots = {}
    for _, at, behind in mapped(plank, weights, weight):
        lots[at] = True
        if behind is not None:
            lots[behind] = True
    return sorted(list(lots), key=lambda lot: (-len(lot), lot))
