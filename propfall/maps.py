"""Maps: what is left by a further weight, wherever it lies."""

from itertools import combinations

from propfall.bearing import around
from propfall.fractions import is_below, of_whole, rising
from propfall.planks import LEFT_REST
from propfall.rows import left_of
from propfall.spans import Spans


class Map:
    """What a further weight overlays at each place: all stands anew for each.

    What it overlays alters at a few places alone, the STOPS. SPOTS are numbers:
    2 * k is the stop of number k, 2 * k + 1 all places between it and the next.
    """

    def __init__(self, plank, bearing, lot, weight):
        self._count = plank.count()
        spans = Spans(plank, bearing, [((0, 1), weight)])
        rests = bearing.rests(lot)
        found = {three: spans.spans(three[0], three[1], three[2]) for three in combinations(rests, 3)}
        self._stops = rising([of_whole(0), of_whole(plank.length())]
                             + [end for ends in found.values() for pair in ends for end in pair])
        spots = {stop: 2 * k for k, stop in enumerate(self._stops)}
        self._spans = {three: [(spots[low], spots[high]) for low, high in ends] for three, ends in found.items()}
        self._lot = lot
        self._start = of_whole(0)
        self._end = of_whole(plank.length())

    def overlaid_at(self, spot, lot):
        """Tell a list of the props of a lot that are overlaid while it stands and the weight lies at a spot."""
        return [there[1] for there in around(LEFT_REST, lot, self._count)
                if any([low < spot < high for low, high in self._spans[there]])]

    def _left_at(self, spot):
        """Tell the lot that is left where the weight lies at a spot."""
        return left_of(AtSpot(self, spot), self._lot)

    def tuples(self):
        """Tell a list of tuples (place, at, behind): what is left at each place at which that alters, and behind it."""
        found = []
        for k, stop in enumerate(self._stops):
            # A prop that is overlaid everywhere has stops beyond the walls.
            if is_below(stop, self._start) or is_below(self._end, stop):
                continue
            at = self._left_at(2 * k)
            if stop == self._end:
                found.append((stop, at, None))
                continue
            behind = self._left_at(2 * k + 1)
            if not found or found[-1][2] != at or at != behind:
                found.append((stop, at, behind))
        return found


class AtSpot:
    """What a further weight overlays at one spot of a map."""

    def __init__(self, plan, spot):
        self._plan = plan
        self._spot = spot

    def overlaid(self, lot):
        """Tell a list of the props of a lot that are overlaid while just it stands."""
        return self._plan.overlaid_at(self._spot, lot)
