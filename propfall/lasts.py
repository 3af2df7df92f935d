"""Last ones: what all goes between two rests that stand whatever lies on them, and which prop last."""

from propfall.checks import is_prop_of
from propfall.rows import left_between


def between(lot, left, right):
    """Tell the lot of those of a lot that are between two rests."""
    return tuple([prop for prop in lot if left < prop < right])


def is_tree_between(bearing, lot, left, right, thing):
    """Tell whether a thing of any kind is a tree of those of a lot between two rests."""
    inner = between(lot, left, right)
    if not inner:
        return thing is None
    if type(thing) is not tuple or len(thing) != 3:
        return False
    last, before, behind = thing
    return (is_prop_of(inner, last) and bearing.is_overlaid(left, last, right)
            and is_tree_between(bearing, inner, left, last, before)
            and is_tree_between(bearing, inner, last, right, behind))


class Lasts:
    """Which props of a lot can go last of all between two rests."""

    def __init__(self, bearing, lot):
        self._bearing = bearing
        self._lot = lot
        self._known = {}

    def goes_last(self, left, prop, right):
        """Tell whether all between two rests can go, a prop between them last."""
        # While it stands, nothing on one side of it hangs on the other side.
        return (self._bearing.is_overlaid(left, prop, right)
                and self.all_go(left, prop) and self.all_go(prop, right))

    def _last(self, left, right):
        """Tell a prop that can go last of all between two rests, None where none can."""
        # The same two rests are met with under many other last ones.
        if (left, right) not in self._known:
            inner = between(self._lot, left, right)
            lasts = [prop for prop in inner if self.goes_last(left, prop, right)]
            self._known[(left, right)] = lasts[0] if lasts else None
        return self._known[(left, right)]

    def all_go(self, left, right):
        """Tell whether all between two rests go, as they do where none is."""
        return not between(self._lot, left, right) or self._last(left, right) is not None

    def tree(self, left, right):
        """Tell a tree of those between two rests, where all of them go."""
        last = self._last(left, right)
        if last is None:
            return None
        return (last, self.tree(left, last), self.tree(last, right))

    def row(self, left, right):
        """Tell a row of givings of all between two rests, where all of them go."""
        last = self._last(left, right)
        return [] if last is None else self.row_to(left, last, right)

    def row_to(self, left, prop, right):
        """Tell a row of givings of all between two rests, where a prop can go last: it is the row's last."""
        return self.row(left, prop) + self.row(prop, right) + [prop]

    def staying(self, left, right):
        """Tell the lot of those between two rests that are left whatever gives way when."""
        return left_between(self._bearing, left, between(self._lot, left, right), right)
