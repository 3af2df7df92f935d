"""What ways over a plank cost: by things that are bought, or by props that are mended."""

from propfall.fractions import is_below, minus
from propfall.moments import Moments
from propfall.planks import LEFT_REST


class Line:
    """Nodes on a plank, each at its place, and what weights do between them."""

    def __init__(self, plank, places, weights):
        self._bend = plank.bend()
        self._moments = Moments(weights)
        self._places = {node: place for node, place in enumerate(places)}
        self._places[len(places)] = plank.length()
        rising = sorted([(place, node) for node, place in self._places.items()])
        self._nodes = [node for _, node in rising]
        self._places[LEFT_REST] = 0

    def nodes(self):
        """Tell a list of all nodes but the left wall, from left to right."""
        return list(self._nodes)

    def place_of(self, node):
        """Tell a node's place."""
        return self._places[node]

    def is_board(self, one, other):
        """Tell whether all bends between two nodes hold."""
        if self._bend is None:
            return True
        return not is_below(self._bend, self._moments.greatest_bend(self._places[one], self._places[other])[0])

    def spare(self, one, middle, other, strength):
        """Tell a strength less what the weights lay on a node between two others."""
        return minus(strength, self._moments.laid(self._places[one], self._places[middle], self._places[other]))


class Buying:
    """What a way costs whose nodes are bought from a menu."""

    def __init__(self, plank, menu, weights):
        self._line = Line(plank, [place for place, _, _ in menu], weights)
        self._menu = menu

    def line(self):
        """Tell the nodes."""
        return self._line

    def first(self, other):
        """Tell (price, part) of the first board of a way: its farther node is bought, where that is no wall."""
        if other == len(self._menu):
            return (0, [])
        return (self._menu[other][2], [other])

    def step(self, one, middle, other):
        """Tell (price, part) of a joint, its last node being bought; None where the middle doesn't bear."""
        if self._line.spare(one, middle, other, self._menu[middle][1])[0] < 0:
            return None
        return self.first(other)


class Mending:
    """What a way costs whose nodes are props that are mended."""

    def __init__(self, plank, each, weights):
        self._props = plank.props()
        self._line = Line(plank, [place for place, _ in self._props], weights)
        self._each = each

    def line(self):
        """Tell the nodes."""
        return self._line

    def first(self, other):
        """Tell (price, part) of the first board of a way: nothing, and no measure for all props ahead."""
        return (0, [0] * other)

    def step(self, one, middle, other):
        """Tell (price, part) of a joint: the whole measures that its middle lacks, none for all props behind it."""
        top, bottom = self._line.spare(one, middle, other, self._props[middle][1])
        # What is left up to what lies on it takes a whole measure, too.
        measures = max(0, -(top // bottom))
        return (measures * self._each[middle], [measures] + [0] * (other - middle - 1))
