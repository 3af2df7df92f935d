"""A cart's way: what goes while it rolls from a place to another one."""

from propfall.fractions import NOUGHT, greater, is_below, minus
from propfall.rows import but, givings_from


class Way:
    """The way of a cart from a place, start, to a place, goal."""

    def __init__(self, spans, start, goal):
        self._spans = spans
        # A way to the left is reckoned as one to the right, all places on it
        # being turned about.
        self._is_left = is_below(goal, start)
        self._start = self._turned(start)
        self._goal = self._turned(goal)

    def _turned(self, place):
        """Tell a place as the way has it, or, of one that the way has, the place on the plank."""
        return minus(NOUGHT, place) if self._is_left else place

    def spans_of(self, lot):
        """Tell a list of tuples (prop, spans): where on the way each prop of a lot is overlaid while it stands."""
        found = self._spans.of_lot(lot)
        if not self._is_left:
            return found
        return [(prop, [(self._turned(high), self._turned(low)) for low, high in spans]) for prop, spans in found]

    def _first_behind(self, lot, place):
        """Tell the first place, from a place on, right behind which a prop of a lot is overlaid, None where none is."""
        found = self._goal
        for _, spans in self.spans_of(lot):
            for low, high in spans:
                # Where a span begins the prop just bears what lies on it yet.
                if is_below(place, high) and is_below(greater(place, low), found):
                    found = greater(place, low)
        return found if is_below(found, self._goal) else None

    def rolled(self, lot):
        """Tell (put, events, left): what goes of a lot at the start, what goes where on the way, and what is left."""
        put = tuple(sorted(givings_from(Met(self, self._start, False), lot)))
        lot = but(lot, put)
        events = []
        place = self._first_behind(lot, self._start)
        while place is not None:
            gone = tuple(sorted(givings_from(Met(self, place, True), lot)))
            events.append((self._turned(place), gone))
            lot = but(lot, gone)
            place = self._first_behind(lot, place)
        return (put, events, lot)

    def first_met(self, lot):
        """Tell (place, prop): where a prop of a lot is overlaid first, and the least such prop, None where none is."""
        if self._start == self._goal:
            place, overlaid = self._start, Met(self, self._start, False).overlaid(lot)
        else:
            place = self._first_behind(lot, self._start)
            overlaid = [] if place is None else Met(self, place, True).overlaid(lot)
        return (self._turned(place), overlaid[0]) if overlaid else None


class Met:
    """What a cart overlays at a place of its way, or right behind it."""

    def __init__(self, way, place, is_behind):
        self._way = way
        self._place = place
        self._is_behind = is_behind

    def _is_within(self, low, high):
        """Tell whether the place, or what is right behind it, is within a span."""
        if not is_below(self._place, high):
            return False
        return is_below(low, self._place) or self._is_behind and low == self._place

    def overlaid(self, lot):
        """Tell a list of the props of a lot that are overlaid while just it stands."""
        return [prop for prop, spans in self._way.spans_of(lot)
                if any([self._is_within(low, high) for low, high in spans])]
