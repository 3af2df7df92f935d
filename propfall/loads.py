"""What lies on the rests of a plank, and how its boards bend."""

from propfall.bearing import asked
from propfall.checks import check_place
from propfall.fractions import is_below, of_whole


def borne(plank, weights, *, lot=None):
    """Tell a list of tuples (rest, fraction), by rests: all that lies on each while just the lot stands."""
    bearing, lot = asked(plank, weights, lot)
    return bearing.borne(lot)


def bend_at(plank, weights, place, *, lot=None):
    """Tell the bend at a place while just the lot stands."""
    bearing, lot = asked(plank, weights, lot)
    check_place(plank, place)
    not_ahead = [ends for ends in bearing.ends_of_boards(lot)
                 if not is_below(of_whole(plank.place_of(ends[1])), place)]
    # At a rest two boards meet, and the bend of either is nought.
    left, right = not_ahead[0]
    return bearing.bend(left, right, place)


def boards(plank, weights, *, lot=None):
    """Tell a list of tuples (left, right, bend, place): each board, its greatest bend and the least place of it."""
    bearing, lot = asked(plank, weights, lot)
    return [bearing.board(left, right) for left, right in bearing.ends_of_boards(lot)]


def holds(plank, weights, *, lot=None):
    """Tell whether no board's bend is above the plank's while just the lot stands."""
    bearing, lot = asked(plank, weights, lot)
    return bearing.all_held(lot)
