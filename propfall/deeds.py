"""Loadings that are put on a plank one by one, and what that leaves."""

from propfall.bearing import Bearing
from propfall.checks import all_props, is_lot_of
from propfall.fractions import is_pair, is_whole
from propfall.rows import left_of, without

PUT = "put"
TAKE = "take"


def is_number_of(loadings, thing):
    """Tell whether a thing of any kind is the number of a loading."""
    return is_whole(thing) and 0 <= thing < len(loadings)


class Lying:
    """What stands as loadings lie on a plank, several at a time."""

    def __init__(self, plank, loadings):
        self._plank = plank
        self._loadings = loadings
        self._bearings = {}
        self._left = {}

    def _bearing_of(self, lying):
        """Tell the bearing of the loadings that lie there, a rising tuple of numbers."""
        if lying not in self._bearings:
            weights = [weight for k in lying for weight in self._loadings[k]]
            self._bearings[lying] = Bearing(self._plank, weights)
        return self._bearings[lying]

    def left(self, lying, lot):
        """Tell what is left of a lot under all the loadings that lie there."""
        if (lying, lot) not in self._left:
            self._left[(lying, lot)] = left_of(self._bearing_of(lying), lot)
        return self._left[(lying, lot)]

    def first(self):
        """Tell the state ahead of all deeds: nothing lies there, and all props stand."""
        return ((), all_props(self._plank))

    def deeds(self, lying):
        """Tell a sorted list of the deeds that can be done while such loadings lie there."""
        numbers = range(len(self._loadings))
        return [(PUT, k) for k in numbers if k not in lying] + [(TAKE, k) for k in lying]

    def is_deed(self, lying, thing):
        """Tell whether a thing of any kind is a deed that can be done while such loadings lie there."""
        if not is_pair(thing):
            return False
        word, k = thing
        if type(word) is not str or not is_number_of(self._loadings, k):
            return False
        return word == TAKE if k in lying else word == PUT

    def behind(self, state, deed):
        """Tell the state behind a deed: what lies there then, and what stands."""
        lying, lot = state
        word, k = deed
        if word == TAKE:
            return (without(lying, k), lot)
        lying = tuple(sorted([*lying, k]))
        return (lying, self.left(lying, lot))

    def is_state(self, thing):
        """Tell whether a thing of any kind is a tuple of what may lie there and of any lot."""
        if not is_pair(thing):
            return False
        lying, lot = thing
        numbers = tuple(range(len(self._loadings)))
        return is_lot_of(numbers, lying) and is_lot_of(all_props(self._plank), lot)
