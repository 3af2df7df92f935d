"""What may be lifted out of what stands: what goes by it, what holds a prop or the plank, what fells it."""

from itertools import combinations

from propfall.bearing import asked
from propfall.checks import check_prop, is_lot_of
from propfall.errors import NoLot
from propfall.rows import but, givings_from, left_of, without


def _asked(plank, weights):
    """Tell the bearing and the lot that stands, where nothing is to be refused."""
    bearing, lot = asked(plank, weights, None)
    return bearing, left_of(bearing, lot)


def _asked_of(plank, weights, prop):
    """Tell the bearing and the lot that stands, where no prop is told or one that stands."""
    bearing, stood = _asked(plank, weights)
    if prop is not None:
        check_prop(stood, prop)
    return bearing, stood


def _check_taken(stood, taken):
    """Refuse what is no lot of those that stand."""
    if not is_lot_of(stood, taken):
        raise NoLot()


def lifted(plank, weights, *, taken):
    """Tell (lot, row): what stands where a lot is lifted out, and a row by which all else goes."""
    bearing, stood = _asked(plank, weights)
    _check_taken(stood, taken)
    lot = but(stood, taken)
    row = givings_from(bearing, lot)
    return (but(lot, row), row)


def _gone(bearing, stood, prop):
    """Tell the lot of all that go where a prop is lifted out, itself too."""
    return but(stood, left_of(bearing, without(stood, prop)))


def needs(plank, weights):
    """Tell the sorted list of tuples (prop, needed): the one goes where the other one is lifted out."""
    bearing, stood = _asked(plank, weights)
    return sorted([(prop, needed) for needed in stood for prop in _gone(bearing, stood, needed) if prop != needed])


def classes(plank, weights):
    """Tell the sorted list of tuples (class, gone): props that need one another, and all that go with them."""
    bearing, stood = _asked(plank, weights)
    members = {}
    for prop in stood:
        # Two props need one another just where the same goes with either.
        members.setdefault(_gone(bearing, stood, prop), []).append(prop)
    return sorted([(tuple(props), gone) for gone, props in members.items()])


def _is_kept(bearing, prop, lot):
    """Tell whether a lot keeps what is asked for: the prop, or, where none is told, boards that all hold."""
    return bearing.all_held(lot) if prop is None else prop in lot


def _keeps(bearing, prop, lot):
    """Tell whether what is left of a lot keeps what is asked for."""
    return _is_kept(bearing, prop, left_of(bearing, lot))


def _shows(bearing, prop, lot):
    """Tell whether a lot stands by itself and keeps what is asked for."""
    return not bearing.overlaid(lot) and _is_kept(bearing, prop, lot)


def _keeping(bearing, prop, stood):
    """Tell a dict from each lot of those that stand to whether what is left of it keeps what is asked for."""
    props = list(stood)
    keeping = {}
    for many in range(len(props) + 1):
        for lot in combinations(props, many):
            # The lesser lots are known by now, and what one of them keeps is kept.
            keeping[lot] = _shows(bearing, prop, lot) or any([keeping[without(lot, other)] for other in lot])
    return keeping


def holders(plank, weights, *, prop=None):
    """Tell the sorted list of the least lots that stand by themselves and keep the prop, or boards that all hold."""
    bearing, stood = _asked_of(plank, weights, prop)
    keeping = _keeping(bearing, prop, stood)
    return sorted([lot for lot in keeping
                   if keeping[lot] and not any([keeping[without(lot, other)] for other in lot])])


def fellers(plank, weights, *, prop=None):
    """Tell the sorted list of the least lots by whose lifting out the prop goes, or the plank doesn't hold."""
    bearing, stood = _asked_of(plank, weights, prop)
    keeping = _keeping(bearing, prop, stood)
    # Where no prop is told, None is in no lot.
    felling = [lot for lot in keeping if prop not in lot and not keeping[but(stood, lot)]]
    return sorted([lot for lot in felling if all([keeping[but(stood, without(lot, other))] for other in lot])])


def is_holder(plank, weights, thing, *, prop=None):
    """Tell, of anything, whether it is a holder of the prop, or of the whole plank."""
    bearing, stood = _asked_of(plank, weights, prop)
    if not is_lot_of(stood, thing) or not _shows(bearing, prop, thing):
        return False
    return not any([_keeps(bearing, prop, without(thing, other)) for other in thing])


def is_feller(plank, weights, thing, *, prop=None):
    """Tell, of anything, whether it is a feller of the prop, or of the whole plank."""
    bearing, stood = _asked_of(plank, weights, prop)
    if not is_lot_of(stood, thing) or prop in thing or _keeps(bearing, prop, but(stood, thing)):
        return False
    return all([_keeps(bearing, prop, but(stood, without(thing, other))) for other in thing])


def shows_left(plank, weights, thing, *, taken, prop=None):
    """Tell, of anything, whether it is a lot that shows what is left where a lot is lifted out."""
    bearing, stood = _asked_of(plank, weights, prop)
    _check_taken(stood, taken)
    return is_lot_of(but(stood, taken), thing) and _shows(bearing, prop, thing)
