"""What a further weight does at one place, however great it is."""

from propfall.fractions import is_below, over, times
from propfall.rows import but, givings_from
from propfall.shares import share


class Pressing:
    """A further weight at a place of a plank, beside the weights that lie there."""

    def __init__(self, plank, bearing, place):
        self._plank = plank
        self._bearing = bearing
        self._place = place

    def _shares(self, lot):
        """Tell a list of tuples (prop, spare, share): those of a lot that have a share, what they bear yet."""
        found = []
        for left, prop, right in self._bearing.around(lot):
            part = share(self._plank, left, prop, right, self._place)
            if part[0] > 0:
                found.append((prop, self._bearing.spare(left, prop, right), part))
        return found

    def most(self, lot):
        """Tell the greatest further weight by which a lot that stands by itself still does, None where any is."""
        found = None
        for _, spare, part in self._shares(lot):
            most = over(spare, part)
            if found is None or is_below(most, found):
                found = most
        return found

    def overlaid_above(self, most, lot):
        """Tell a list of the props of a lot that are overlaid by each further weight above a most, however near."""
        overlaid = self._bearing.overlaid(lot)
        going = {prop: True for prop, spare, part in self._shares(lot) if not is_below(times(most, part), spare)}
        return [prop for prop in lot if prop in overlaid or prop in going]

    def overlaying(self, most):
        """Tell what overlays props by each further weight just above a most, or, where None is told, by none."""
        return self._bearing if most is None else JustAbove(self, most)

    def steps(self, lot):
        """Tell a list of tuples (row, lot, most): what is left of a lot by all further weights, by rising ones."""
        found = []
        most = None
        while not found or most is not None:
            row = givings_from(self.overlaying(most), lot)
            lot = but(lot, row)
            most = self.most(lot)
            found.append((row, lot, most))
        return found


class JustAbove:
    """What each further weight above a most overlays, however near."""

    def __init__(self, pressing, most):
        self._pressing = pressing
        self._most = most

    def overlaid(self, lot):
        """Tell a list of the props of a lot that are overlaid while just it stands."""
        return self._pressing.overlaid_above(self._most, lot)
