"""Planks: boards between two walls, on props of told strengths."""

from propfall.errors import NoPlank, NoRest, NoStrengths
from propfall.fractions import is_from_nought, is_pair, is_whole

LEAST_LENGTH = 2
MOST_LENGTH = 1000
MOST_PROPS = 12
LEFT_REST = -1


def _is_length(thing):
    """Tell whether a thing of any kind is a plank's length."""
    return is_whole(thing) and LEAST_LENGTH <= thing <= MOST_LENGTH


def _are_props(thing, length):
    """Tell whether a thing of any kind is the props of a plank of this length."""
    if type(thing) is not list or len(thing) > MOST_PROPS:
        return False
    ahead = 0
    for prop in thing:
        if not is_pair(prop):
            return False
        place, strength = prop
        if not is_whole(place) or not ahead < place < length:
            return False
        if not is_from_nought(strength):
            return False
        ahead = place
    return True


def _is_bend(thing):
    """Tell whether a thing of any kind is a plank's bend, or none is told."""
    return thing is None or is_from_nought(thing)


def are_strengths(thing, many):
    """Tell whether a thing of any kind is a list of so many strengths."""
    if type(thing) is not list or len(thing) != many:
        return False
    return all([is_from_nought(strength) for strength in thing])


class Plank:
    """A plank between two walls, on at most twelve props; it never changes."""

    def __init__(self, length, props, *, bend=None):
        if not _is_length(length):
            raise NoPlank("length")
        if not _are_props(props, length):
            raise NoPlank("props")
        if not _is_bend(bend):
            raise NoPlank("bend")
        self._length = length
        # The list stays its owner's, to be changed at will.
        self._props = tuple(props)
        self._bend = bend

    def length(self):
        """Tell the length, which is also the right wall's place."""
        return self._length

    def props(self):
        """Tell the props, a new list of tuples (place, strength)."""
        return list(self._props)

    def bend(self):
        """Tell the greatest bend that the boards hold, or None."""
        return self._bend

    def count(self):
        """Tell how many props there are."""
        return len(self._props)

    def place_of(self, rest):
        """Tell the place of a rest: of a wall or of a prop."""
        if not is_whole(rest) or not LEFT_REST <= rest <= self.count():
            raise NoRest(rest)
        if rest == LEFT_REST:
            return 0
        if rest == self.count():
            return self._length
        return self._props[rest][0]

    def strengthened(self, strengths):
        """Tell the plank that is like this one but for the strengths."""
        if not are_strengths(strengths, self.count()):
            raise NoStrengths()
        props = [(prop[0], strength) for prop, strength in zip(self._props, strengths)]
        return Plank(self._length, props, bend=self._bend)

    def __eq__(self, other):
        return (isinstance(other, Plank) and self._length == other._length
                and self._props == other._props and self._bend == other._bend)
