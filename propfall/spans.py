"""Where on its way a cart, or a further weight, overlays a prop."""

from propfall.fractions import NOUGHT, is_below, minus, of_whole, over, plus, rising, times
from propfall.shares import share


class Spans:
    """The spans of a cart's way in which a prop is overlaid, whichever rests are next to it.

    A cart is told by its axles, tuples (behind, weight), and stands where its
    first axle does; a further weight is a cart of one axle. As the cart rolls,
    what an axle lays on a prop rises evenly from nought at the next rest to all
    of it at the prop, and falls evenly to nought at the next rest behind. So
    what all of them lay on it runs straight from turn to turn.
    """

    def __init__(self, plank, bearing, axles):
        self._plank = plank
        self._bearing = bearing
        self._axles = axles
        self._known = {}

    def laid(self, left, prop, right, place):
        """Tell what the cart at a place lays on a prop while these rests are the next ones on either side."""
        total = NOUGHT
        for behind, weight in self._axles:
            total = plus(total, times(weight, share(self._plank, left, prop, right, minus(place, behind))))
        return total

    def turns(self, left, prop, right):
        """Tell the places of the cart, rising, at which an axle is at one of three rests."""
        return rising([plus(of_whole(self._plank.place_of(rest)), behind)
                       for rest in (left, prop, right) for behind, _ in self._axles])

    def spans(self, left, prop, right):
        """Tell a list of tuples (low, high): the prop is overlaid just between these places, ends left out."""
        key = (left, prop, right)
        if key not in self._known:
            self._known[key] = self._found(left, prop, right)
        return self._known[key]

    def of_lot(self, lot):
        """Tell a list of tuples (prop, spans): where each prop of a lot is overlaid while just the lot stands."""
        return [(prop, self.spans(left, prop, right)) for left, prop, right in self._bearing.around(lot)]

    def _found(self, left, prop, right):
        """Find the spans in which a prop is overlaid."""
        spare = self._bearing.spare(left, prop, right)
        if spare[0] < 0:
            # Overlaid by the weights alone, it is so wherever the cart is.
            return [(of_whole(-1), of_whole(self._plank.length() + 1))]
        found = []
        turns = self.turns(left, prop, right)
        loads = [self.laid(left, prop, right, turn) for turn in turns]
        low = turns[0]
        for at in range(1, len(turns)):
            was, is_now = is_below(spare, loads[at - 1]), is_below(spare, loads[at])
            if was != is_now:
                step = over(minus(spare, loads[at - 1]), minus(loads[at], loads[at - 1]))
                crossing = plus(turns[at - 1], times(step, minus(turns[at], turns[at - 1])))
                if was:
                    found.append((low, crossing))
                low = crossing
        return found
