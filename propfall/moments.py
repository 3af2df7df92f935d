"""Moments of weights: what the weights lay on a rest, and how they bend a board, between whichever places."""

from math import lcm

from propfall.fractions import NOUGHT, is_below, of_whole, reduced


class Moments:
    """The moments of weights at all places.

    The MOMENT at a place is the sum of the weights left of it, each taken as
    often as it lies left of it. Draw the moments over the plank: each weight
    bends the line upwards where it lies, by just what it weighs. A board lays
    all within it on its two ends, which alters the line as if it were drawn
    straight from end to end. So what lies on a rest is by how much the line is
    steeper behind it than ahead of it, drawn straight to the next rest on
    either side; and a bend is by how much the straight line lies above the
    moment. Thus the moments at the rests, reckoned once, do for every lot.
    """

    def __init__(self, weights):
        self._bottom = 1
        for place, weight in weights:
            self._bottom = lcm(self._bottom, place[1] * weight[1])
        self._weights = [self._over_bottom(place, weight) for place, weight in weights]
        self._known = {}

    def _over_bottom(self, place, weight):
        """Tell a weight's place, and the tops, over the one bottom, of it and of it as often as its place."""
        # Whole numbers over one bottom need no lowest terms, which would
        # take most of the time.
        times = self._bottom // (place[1] * weight[1])
        return (place, weight[0] * place[1] * times, weight[0] * place[0] * times)

    def _moment(self, place):
        """Tell the top of the moment at a place, over the one bottom and the place's own."""
        if place not in self._known:
            top, bottom = place
            moment = 0
            for at, weight, turn in self._weights:
                if is_below(at, place):
                    moment += weight * top - turn * bottom
            self._known[place] = moment
        return self._known[place]

    def laid(self, left, at, right):
        """Tell what lies on a rest between its next ones, all at whole places: a top and a bottom, not reduced."""
        moment = self._moment(of_whole(at))
        climb_ahead = moment - self._moment(of_whole(left))
        climb_behind = self._moment(of_whole(right)) - moment
        return (climb_behind * (at - left) - climb_ahead * (right - at), (at - left) * (right - at) * self._bottom)

    def _above(self, left, right, place):
        """Tell how far the straight line between two whole places lies above the moment at a place.

        It is a top and a bottom, all the bends of one board having as much
        more in their bottoms.
        """
        top, bottom = place
        straight = (self._moment(of_whole(left)) * (right * bottom - top)
                    + self._moment(of_whole(right)) * (top - left * bottom))
        return (straight - self._moment(place) * (right - left), bottom)

    def bend(self, left, right, place):
        """Tell the bend at a place of the board between two whole places."""
        top, bottom = self._above(left, right, place)
        return reduced(top, bottom * (right - left) * self._bottom)

    def greatest_bend(self, left, right):
        """Tell a board's greatest bend and the least place at which it is so great."""
        start, end = of_whole(left), of_whole(right)
        most, where = NOUGHT, start
        # Between two weights a bend runs straight, so it is greatest at a weight.
        for place, _, _ in self._weights:
            if is_below(start, place) and is_below(place, end):
                above = self._above(left, right, place)
                if is_below(most, above) or not is_below(above, most) and is_below(place, where):
                    most, where = above, place
        return (self.bend(left, right, where), where)
