"""Shares: how much of a weight a prop bears, by where the weight lies."""

from propfall.fractions import NOUGHT, is_below, minus, of_whole, over

ALL = (1, 1)


def share(plank, left, prop, right, place):
    """Tell how much of a weight of 1 at a place lies on a prop while these rests are the next ones on either side.

    It is nought beyond these rests, also at a place that is not on the plank.
    """
    at = of_whole(plank.place_of(prop))
    for rest in (left, right):
        end = of_whole(plank.place_of(rest))
        # Seen from the prop's next rest the share rises evenly.
        way = over(minus(place, end), minus(at, end))
        if way[0] > 0 and not is_below(ALL, way):
            return way
    return NOUGHT
