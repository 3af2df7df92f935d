"""What lies on the rests of a plank, and how its boards bend."""

from propfall.bearing import asked
from propfall.checks import check_place
from propfall.fractions import is_below, of_whole

NOUGHT = (0, 1)


def borne(plank, weights, *, lot=None):
    """Tell a list of tuples (rest, fraction), by rests: all that lies on each while just the lot stands."""
    bearing, lot = asked(plank, weights, lot)
    return bearing.borne(lot)


def _ends_of_boards(bearing, lot):
    """Tell a list of tuples (left, right): the rests of each board, from left to right."""
    rests = bearing.rests(lot)
    return list(zip(rests, rests[1:]))


def bend_at(plank, weights, place, *, lot=None):
    """Tell the bend at a place while just the lot stands."""
    bearing, lot = asked(plank, weights, lot)
    check_place(plank, place)
    not_ahead = [ends for ends in _ends_of_boards(bearing, lot)
                 if not is_below(of_whole(plank.place_of(ends[1])), place)]
    # At a rest two boards meet, and the bend of either is nought.
    left, right = not_ahead[0]
    return bearing.bend(left, right, place)


def _board(plank, bearing, weights, left, right):
    """Tell the tuple (left, right, bend, place) of the board between two rests."""
    start = of_whole(plank.place_of(left))
    end = of_whole(plank.place_of(right))
    most, where = NOUGHT, start
    # Between two weights a bend runs straight, so it is greatest at a weight.
    for place, _ in weights:
        if is_below(start, place) and is_below(place, end):
            bend = bearing.bend(left, right, place)
            if is_below(most, bend) or bend == most and is_below(place, where):
                most, where = bend, place
    return (left, right, most, where)


def boards(plank, weights, *, lot=None):
    """Tell a list of tuples (left, right, bend, place): each board, its greatest bend and the least place of it."""
    bearing, lot = asked(plank, weights, lot)
    return [_board(plank, bearing, weights, left, right) for left, right in _ends_of_boards(bearing, lot)]


def holds(plank, weights, *, lot=None):
    """Tell whether no board's bend is above the plank's while just the lot stands."""
    told = boards(plank, weights, lot=lot)
    most = plank.bend()
    return most is None or not any([is_below(most, board[2]) for board in told])
