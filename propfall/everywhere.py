"""Carts that roll for ever: what they overlay, wherever each of them is on its way."""

from propfall.fractions import NOUGHT, greater, is_below, is_fraction, lesser, plus


class Everywhere:
    """What several carts overlay, each of them anywhere on its way."""

    def __init__(self, bearing, rolls):
        self._bearing = bearing
        # Tuples (spans, start, goal), one for each cart.
        self._rolls = rolls
        self._known = {}

    def _heaviest(self, spans, start, goal, three):
        """Tell (place, load): the place on its way at which a cart lays the most on the middle one of three rests."""
        low, high = lesser(start, goal), greater(start, goal)
        place, most = low, spans.laid(three[0], three[1], three[2], low)
        # Between two turns the load runs straight, so no place there is greatest alone.
        for turn in spans.turns(three[0], three[1], three[2]) + [high]:
            if is_below(low, turn) and not is_below(high, turn):
                load = spans.laid(three[0], three[1], three[2], turn)
                if is_below(most, load):
                    place, most = turn, load
        return (place, most)

    def _heaviest_places(self, three):
        """Tell (places, load): where all carts together lay the most on the middle one of three rests."""
        if three not in self._known:
            found = [self._heaviest(spans, start, goal, three) for spans, start, goal in self._rolls]
            total = NOUGHT
            for _, load in found:
                total = plus(total, load)
            self._known[three] = (tuple([place for place, _ in found]), total)
        return self._known[three]

    def _is_overlaid(self, three):
        """Tell whether the middle one of three rests is overlaid with the carts somewhere."""
        spare = self._bearing.spare(three[0], three[1], three[2])
        return is_below(spare, self._heaviest_places(three)[1])

    def overlaid(self, lot):
        """Tell a list of the props of a lot that are overlaid, with the carts somewhere, while just the lot stands."""
        return [three[1] for three in self._bearing.around(lot) if self._is_overlaid(three)]

    def _three(self, lot, prop):
        """Tell a prop of a lot between its next rests."""
        return [three for three in self._bearing.around(lot) if three[1] == prop][0]

    def places(self, lot, prop):
        """Tell the places of the carts at which they lay the most on a prop while just a lot stands."""
        return self._heaviest_places(self._three(lot, prop))[0]

    def are_places(self, thing):
        """Tell whether a thing of any kind is a tuple with a place on its way for each cart."""
        if type(thing) is not tuple or len(thing) != len(self._rolls):
            return False
        return all([is_fraction(place) and not is_below(place, lesser(start, goal))
                    and not is_below(greater(start, goal), place)
                    for place, (_, start, goal) in zip(thing, self._rolls)])

    def is_overlaid_by(self, lot, prop, places):
        """Tell whether a prop of a lot is overlaid while just the lot stands and the carts are at such places."""
        left, _, right = self._three(lot, prop)
        total = NOUGHT
        for place, (spans, _, _) in zip(places, self._rolls):
            total = plus(total, spans.laid(left, prop, right, place))
        return is_below(self._bearing.spare(left, prop, right), total)
