"""What stands and what falls, with papers for either."""

from propfall.bearing import asked
from propfall.checks import check_prop, is_lot_of
from propfall.fractions import is_pair
from propfall.rows import are_unlike_props, fault_in_row, first_that_bears, givings_from, left_of

STANDS = "stands"
FALLS = "falls"


def standing(plank, weights, *, lot=None):
    """Tell the greatest lot within the lot that stands by itself."""
    bearing, lot = asked(plank, weights, lot)
    return left_of(bearing, lot)


def givings(plank, weights, *, lot=None):
    """Tell a whole row of givings from the lot on."""
    bearing, lot = asked(plank, weights, lot)
    return givings_from(bearing, lot)


def row_fault(plank, weights, thing, *, lot=None):
    """Tell, of anything, why it is no whole row of givings, None where it is one."""
    bearing, lot = asked(plank, weights, lot)
    return fault_in_row(bearing, lot, thing)


def why(plank, weights, prop, *, lot=None):
    """Tell ("stands", a lot that shows it) or ("falls", a row that ends with the prop)."""
    bearing, lot = asked(plank, weights, lot)
    check_prop(lot, prop)
    row = givings_from(bearing, lot)
    if prop in row:
        return (FALLS, row[:row.index(prop) + 1])
    return (STANDS, left_of(bearing, lot))


def _shows_standing(bearing, lot, prop, thing):
    """Tell whether a thing of any kind is a lot with the prop that stands by itself."""
    return is_lot_of(lot, thing) and prop in thing and not bearing.overlaid(thing)


def _shows_falling(bearing, lot, prop, thing):
    """Tell whether a thing of any kind is a row of givings that ends with the prop."""
    if not are_unlike_props(lot, thing) or not thing:
        return False
    return thing[-1] == prop and first_that_bears(bearing, lot, thing) is None


def is_why(plank, weights, prop, thing, *, lot=None):
    """Tell, of anything, whether it shows that the prop stands or that it falls."""
    bearing, lot = asked(plank, weights, lot)
    check_prop(lot, prop)
    if not is_pair(thing):
        return False
    side, paper = thing
    if type(side) is not str:
        return False
    if side == STANDS:
        return _shows_standing(bearing, lot, prop, paper)
    return side == FALLS and _shows_falling(bearing, lot, prop, paper)
