"""Carts that roll over a plank: what goes on the way, once, again and again, and for ever."""

from propfall.bearing import asked
from propfall.checks import all_props, check_carts, check_roll, is_lot_of, is_prop_of
from propfall.everywhere import Everywhere
from propfall.fractions import is_fraction, is_pair
from propfall.rows import givings_from, left_of, without
from propfall.spans import Spans
from propfall.ways import Way


def _asked_of(plank, weights, cart, start, goal, lot):
    """Tell the cart's spans and the lot that is asked for, where nothing is to be refused."""
    bearing, lot = asked(plank, weights, lot)
    check_roll(plank, cart, start, goal)
    return Spans(plank, bearing, cart), lot


def rolled(plank, weights, *, cart, start, goal, lot=None):
    """Tell (put, events, left): what goes where the cart is put, what goes where on its way, and what is left."""
    spans, lot = _asked_of(plank, weights, cart, start, goal, lot)
    return Way(spans, start, goal).rolled(lot)


def holds_to(plank, weights, *, cart, start, goal, lot=None):
    """Tell (place, prop): how far the lot stands under the cart, and the prop that goes there, None where it stands."""
    spans, lot = _asked_of(plank, weights, cart, start, goal, lot)
    return Way(spans, start, goal).first_met(lot)


def _is_event(everything, thing):
    """Tell whether a thing of any kind is a tuple of a fraction and a lot that is not bare."""
    if not is_pair(thing):
        return False
    place, gone = thing
    return is_fraction(place) and is_lot_of(everything, gone) and len(gone) > 0


def _is_roll(everything, thing):
    """Tell whether a thing of any kind has the form of what rolled tells."""
    if type(thing) is not tuple or len(thing) != 3:
        return False
    put, events, left = thing
    if not is_lot_of(everything, put) or not is_lot_of(everything, left) or type(events) is not list:
        return False
    return all([_is_event(everything, event) for event in events])


def _fault_in_events(right, events):
    """Tell what events lack of being the right ones, None where they are these."""
    for k, event in enumerate(events):
        if k >= len(right) or event != right[k]:
            return ("event", k)
    return ("more",) if len(events) < len(right) else None


def fault_of(plank, weights, thing, *, cart, start, goal, lot=None):
    """Tell, of anything, why it is not what rolled tells, None where it is."""
    spans, lot = _asked_of(plank, weights, cart, start, goal, lot)
    if not _is_roll(all_props(plank), thing):
        return ("form",)
    put, events, left = Way(spans, start, goal).rolled(lot)
    if thing[0] != put:
        return ("put",)
    fault = _fault_in_events(events, thing[1])
    if fault is None and thing[2] != left:
        return ("left",)
    return fault


def again_and_again(plank, weights, *, cart, start, goal, back=True, lot=None):
    """Tell (many, lots, left): how many rolls change anything, what each of these leaves, and what is left for ever."""
    spans, lot = _asked_of(plank, weights, cart, start, goal, lot)
    way = Way(spans, start, goal)
    other = Way(spans, goal, start) if back else way
    lots = []
    left = way.rolled(lot)[2]
    while left != lot:
        lots.append(left)
        lot = left
        way, other = other, way
        left = way.rolled(lot)[2]
    return (len(lots), lots, lot)


def _asked_for_ever(plank, weights, carts, lot):
    """Tell what the carts overlay, and the lot that is asked for, where nothing is to be refused."""
    bearing, lot = asked(plank, weights, lot)
    check_carts(plank, carts)
    return Everywhere(bearing, [(Spans(plank, bearing, cart), start, goal) for cart, start, goal in carts]), lot


def for_ever(plank, weights, carts, *, lot=None):
    """Tell (left, row): what stands wherever the carts are, and a list of tuples (prop, places): by what others go."""
    everywhere, lot = _asked_for_ever(plank, weights, carts, lot)
    row = []
    for prop in givings_from(everywhere, lot):
        row.append((prop, everywhere.places(lot, prop)))
        lot = without(lot, prop)
    return (lot, row)


def _left_behind_row(everywhere, lot, thing):
    """Tell, of a thing of any kind, the lot left where it is a row of tuples (prop, places) by which each goes."""
    if type(thing) is not list:
        return None
    for step in thing:
        if not is_pair(step):
            return None
        prop, places = step
        if not is_prop_of(lot, prop) or not everywhere.are_places(places):
            return None
        if not everywhere.is_overlaid_by(lot, prop, places):
            return None
        lot = without(lot, prop)
    return lot


def is_for_ever(plank, weights, carts, thing, *, lot=None):
    """Tell, of anything, whether it shows what stands wherever the carts are, and by what the others go."""
    everywhere, lot = _asked_for_ever(plank, weights, carts, lot)
    if not is_pair(thing):
        return False
    left, row = thing
    if not is_lot_of(lot, left) or left != left_of(everywhere, lot):
        return False
    return _left_behind_row(everywhere, lot, row) == left
