"""What weights lay on the rests of a plank, whichever of its props stand."""

from propfall.checks import check_weights, lot_of
from propfall.fractions import is_below, minus, reduced
from propfall.moments import Moments
from propfall.planks import LEFT_REST


class Bearing:
    """What weights lay on the rests of a plank, whichever of its props stand."""

    def __init__(self, plank, weights):
        self._count = plank.count()
        self._strengths = [prop[1] for prop in plank.props()]
        self._bend = plank.bend()
        self._places = {rest: plank.place_of(rest) for rest in range(LEFT_REST, self._count + 1)}
        # Beyond the walls the line of moments runs on straight, so one more
        # place on either side tells how steep it is: walls are as props are.
        self._places[LEFT_REST - 1] = -1
        self._places[self._count + 1] = plank.length() + 1
        self._moments = Moments(weights)
        self._overlaid = {}
        self._spares = {}
        self._held = {}

    def _laid(self, left, rest, right):
        """Tell what lies on a rest while these are the next ones on either side, not reduced."""
        return self._moments.laid(self._places[left], self._places[rest], self._places[right])

    def rests(self, lot):
        """Tell a list of the rests while just a lot stands."""
        return [LEFT_REST, *lot, self._count]

    def ends_of_boards(self, lot):
        """Tell a list of tuples (left, right): the rests of each board, from left to right."""
        rests = self.rests(lot)
        return list(zip(rests, rests[1:]))

    def around(self, lot):
        """Tell a list of tuples (left, prop, right): each prop of a lot and its next rests on either side."""
        return around(LEFT_REST, lot, self._count)

    def borne(self, lot):
        """Tell a list of tuples (rest, fraction): what lies on each rest while just a lot stands."""
        found = []
        for left, rest, right in around(LEFT_REST - 1, self.rests(lot), self._count + 1):
            top, bottom = self._laid(left, rest, right)
            found.append((rest, reduced(top, bottom)))
        return found

    def bend(self, left, right, place):
        """Tell the bend at a place of the board between two rests."""
        return self._moments.bend(self._places[left], self._places[right], place)

    def board(self, left, right):
        """Tell the tuple (left, right, bend, place) of a board: its greatest bend, and the least place of it."""
        bend, place = self._moments.greatest_bend(self._places[left], self._places[right])
        return (left, right, bend, place)

    def _is_held(self, left, right):
        """Tell whether a board holds."""
        if (left, right) not in self._held:
            self._held[(left, right)] = not is_below(self._bend, self.board(left, right)[2])
        return self._held[(left, right)]

    def all_held(self, lot):
        """Tell whether all boards hold while just a lot stands."""
        if self._bend is None:
            return True
        return all([self._is_held(left, right) for left, right in self.ends_of_boards(lot)])

    def is_overlaid(self, left, prop, right):
        """Tell whether a prop is overlaid while these rests are the next ones on either side."""
        # The same three are met with in many lots.
        key = (left, prop, right)
        if key not in self._overlaid:
            self._overlaid[key] = is_below(self._strengths[prop], self._laid(left, prop, right))
        return self._overlaid[key]

    def spare(self, left, prop, right):
        """Tell a prop's strength less what lies on it while these rests are the next ones on either side."""
        key = (left, prop, right)
        if key not in self._spares:
            self._spares[key] = minus(self._strengths[prop], self._laid(left, prop, right))
        return self._spares[key]

    def overlaid_between(self, left, lot, right):
        """Tell a list of the props of a lot that are overlaid while just it and a rest on either side stand."""
        return [there[1] for there in around(left, lot, right) if self.is_overlaid(there[0], there[1], there[2])]

    def overlaid(self, lot):
        """Tell a list of the props of a lot that are overlaid while just it stands."""
        return self.overlaid_between(LEFT_REST, lot, self._count)


def around(left, rests, right):
    """Tell a list of tuples (left, rest, right): each of the rests and the next ones, the first and last told."""
    line = [left, *rests, right]
    return list(zip(line, line[1:], line[2:]))


def asked(plank, weights, lot):
    """Tell the bearing and the lot that are asked for, where nothing is to be refused."""
    check_weights(plank, weights)
    return Bearing(plank, weights), lot_of(plank, lot)
