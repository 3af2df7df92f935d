"""Loadings one behind the other, each put on by itself, or several lying there at a time."""

from propfall.checks import all_props, check_loadings, check_prop, is_lot_of
from propfall.deeds import Lying, is_number_of
from propfall.errors import NoDeed, NoLot, NoRow
from propfall.orders import first_orders, longer_orders
from propfall.states import Search

MOST_IN_A_ROW = 40


def _asked(plank, loadings):
    """Tell what stands as loadings lie on the plank, where nothing is to be refused."""
    check_loadings(plank, loadings)
    return Lying(plank, loadings)


def _asked_row(plank, loadings, row):
    """Tell what stands as loadings lie on the plank, where they and the row are such."""
    lying = _asked(plank, loadings)
    if type(row) is not list or len(row) > MOST_IN_A_ROW:
        raise NoRow()
    if not all([is_number_of(loadings, k) for k in row]):
        raise NoRow()
    return lying


def _left_by_each(lying, row, lot):
    """Tell a list of the lots left by each loading of a row, put on one behind the other."""
    lots = []
    for k in row:
        lot = lying.left((k,), lot)
        lots.append(lot)
    return lots


def left_behind(plank, loadings, *, row):
    """Tell a list of the lots left by each loading of a row."""
    return _left_by_each(_asked_row(plank, loadings, row), row, all_props(plank))


def rounds(plank, loadings, *, row):
    """Tell (many, left): how many tellings of a row change anything, and what it leaves for ever."""
    lying = _asked_row(plank, loadings, row)
    many = 0
    lot = all_props(plank)
    lots = _left_by_each(lying, row, lot)
    while lots and lots[-1] != lot:
        many += 1
        lot = lots[-1]
        lots = _left_by_each(lying, row, lot)
    return (many, lot)


def _all_orders(plank, lying, many):
    """Tell a list of all orders of so many loadings and fewer, by how many loadings are in them."""
    numbers = list(range(many))
    found = [first_orders(all_props(plank))]
    for _ in numbers:
        found.append(longer_orders(lying, numbers, found[-1]))
    return found


def orders(plank, loadings):
    """Tell a list of tuples (lot, many, row): each lot that an order leaves, by how many, and the least of them."""
    lying = _asked(plank, loadings)
    longest = _all_orders(plank, lying, len(loadings))[-1]
    found = [(lot, many, row) for lots in longest.values() for lot, (many, row) in lots.items()]
    return sorted(found, key=lambda one: (-len(one[0]), one[0]))


def why_not(plank, loadings, *, prop):
    """Tell the fewest loadings behind whose every order a prop is gone, None where it stands behind some order."""
    lying = _asked(plank, loadings)
    check_prop(all_props(plank), prop)
    for of_one_size in _all_orders(plank, lying, len(loadings)):
        felling = [some for some, lots in of_one_size.items() if not any([prop in lot for lot in lots])]
        if felling:
            return min(felling)
    return None


def done(plank, loadings, *, deeds):
    """Tell a list of the lots left behind each deed: a loading put on beside those that lie there, or taken off."""
    lying = _asked(plank, loadings)
    if type(deeds) is not list or len(deeds) > MOST_IN_A_ROW:
        raise NoDeed(-1)
    state = lying.first()
    lots = []
    for at, deed in enumerate(deeds):
        if not lying.is_deed(state[0], deed):
            raise NoDeed(at)
        state = lying.behind(state, deed)
        lots.append(state[1])
    return lots


def _asked_search(plank, loadings, prop, stays):
    """Tell what stands as loadings lie there, and the search for a prop's going, where nothing is to be refused."""
    lying = _asked(plank, loadings)
    check_prop(all_props(plank), prop)
    if not is_lot_of(all_props(plank), stays):
        raise NoLot()
    return lying, Search(lying, prop, stays)


def fewest(plank, loadings, *, prop, stays=()):
    """Tell the fewest deeds behind which a prop is gone while a lot stands, or ("never", all states come to)."""
    _, search = _asked_search(plank, loadings, prop, stays)
    return search.told()


def is_never(plank, loadings, thing, *, prop, stays=()):
    """Tell, of anything, whether it is states that no deed leads out of and in none of which the prop is so gone."""
    lying, search = _asked_search(plank, loadings, prop, stays)
    if type(thing) is not list or not all([lying.is_state(state) for state in thing]):
        return False
    return search.never_meets(thing)
