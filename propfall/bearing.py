"""What weights lay on the rests of a plank, whichever of its props stand."""

from math import lcm

from propfall.checks import check_weights, lot_of
from propfall.fractions import is_below, of_whole, reduced
from propfall.planks import LEFT_REST


class Bearing:
    """What weights lay on the rests of a plank, whichever of its props stand.

    All of it is told by MOMENTS. The moment at a place is the sum of the
    weights left of it, each taken as often as it lies left of it. Draw the
    moments over the plank: each weight bends the line upwards where it lies,
    by just what it weighs. A board lays all within it on its two ends, which
    alters the line as if it were drawn straight from end to end. So what lies
    on a rest is by how much the line is steeper behind it than ahead of it,
    drawn straight to the next rest on either side; and a bend is by how much
    the straight line lies above the moment. Thus the moments at the rests,
    reckoned once, do for every lot.
    """

    def __init__(self, plank, weights):
        self._count = plank.count()
        self._strengths = [prop[1] for prop in plank.props()]
        self._places = {rest: plank.place_of(rest) for rest in range(LEFT_REST, self._count + 1)}
        # Beyond the walls the line runs on straight, so one more place on
        # either side tells how steep it is: walls are reckoned as props are.
        self._places[LEFT_REST - 1] = -1
        self._places[self._count + 1] = plank.length() + 1
        self._bottom = 1
        for place, weight in weights:
            self._bottom = lcm(self._bottom, place[1] * weight[1])
        self._weights = [self._over_bottom(place, weight) for place, weight in weights]
        self._moments = {rest: self._moment(of_whole(place)) for rest, place in self._places.items()}
        self._known = {}

    def _over_bottom(self, place, weight):
        """Tell a weight's place, and the tops, over the one bottom, of it and of it as often as its place."""
        # Whole numbers over one bottom need no lowest terms, which would
        # take most of the time.
        times = self._bottom // (place[1] * weight[1])
        return (place, weight[0] * place[1] * times, weight[0] * place[0] * times)

    def _moment(self, place):
        """Tell the top of the moment at a place, over the one bottom and the place's own."""
        top, bottom = place
        moment = 0
        for at, weight, turn in self._weights:
            if is_below(at, place):
                moment += weight * top - turn * bottom
        return moment

    def _laid(self, left, rest, right):
        """Tell what lies on a rest while these are the next ones on either side."""
        ahead = self._places[rest] - self._places[left]
        behind = self._places[right] - self._places[rest]
        climb_ahead = self._moments[rest] - self._moments[left]
        climb_behind = self._moments[right] - self._moments[rest]
        return reduced(climb_behind * ahead - climb_ahead * behind, ahead * behind * self._bottom)

    def rests(self, lot):
        """Tell a list of the rests while just a lot stands."""
        return [LEFT_REST, *lot, self._count]

    def borne(self, lot):
        """Tell a list of tuples (rest, fraction): what lies on each rest while just a lot stands."""
        rests = [LEFT_REST - 1] + self.rests(lot) + [self._count + 1]
        return [(rests[at], self._laid(rests[at - 1], rests[at], rests[at + 1])) for at in range(1, len(rests) - 1)]

    def bend(self, left, right, place):
        """Tell the bend at a place of the board between two rests."""
        top, bottom = place
        length = self._places[right] - self._places[left]
        ahead = top - self._places[left] * bottom
        behind = self._places[right] * bottom - top
        straight = self._moments[left] * behind + self._moments[right] * ahead
        return reduced(straight - self._moment(place) * length, length * bottom * self._bottom)

    def is_overlaid(self, left, prop, right):
        """Tell whether a prop is overlaid while these rests are the next ones on either side."""
        # The same three are met with in many lots.
        key = (left, prop, right)
        if key not in self._known:
            self._known[key] = is_below(self._strengths[prop], self._laid(left, prop, right))
        return self._known[key]

    def overlaid_between(self, left, lot, right):
        """Tell a list of the props of a lot that are overlaid while just it and a rest on either side stand."""
        rests = [left, *lot, right]
        return [prop for at, prop in enumerate(lot) if self.is_overlaid(rests[at], prop, rests[at + 2])]

    def overlaid(self, lot):
        """Tell a list of the props of a lot that are overlaid while just it stands."""
        return self.overlaid_between(LEFT_REST, lot, self._count)


def asked(plank, weights, lot):
    """Tell the bearing and the lot that are asked for, where nothing is to be refused."""
    check_weights(plank, weights)
    return Bearing(plank, weights), lot_of(plank, lot)
