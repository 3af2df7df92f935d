"""How many whole rows of givings there are, and which is which in their order."""

from propfall.rows import without


class Counts:
    """How many whole rows of givings there are from each lot on that is come to."""

    def __init__(self, bearing):
        self._bearing = bearing
        # A lot is come to by many rows, so what is found of it is kept.
        self._many = {}
        self._many_ahead = {}

    def _next_lots(self, lot):
        """Tell a list of tuples (prop, lot): each that may give way next, rising, and the lot without it."""
        return [(prop, without(lot, prop)) for prop in self._bearing.overlaid(lot)]

    def how_many(self, lot):
        """Tell how many whole rows there are from a lot on."""
        if lot not in self._many:
            counts = [self.how_many(left) for _, left in self._next_lots(lot)]
            # Where none gives way there is one row, the bare one.
            self._many[lot] = sum(counts) if counts else 1
        return self._many[lot]

    def many_ahead(self, lot, one, other):
        """Tell in how many whole rows from a lot on, with both in it, the one goes ahead of the other."""
        key = (lot, one, other)
        if key not in self._many_ahead:
            many = 0
            for prop, left in self._next_lots(lot):
                if prop == one:
                    many += self.how_many(left)
                elif prop != other:
                    many += self.many_ahead(left, one, other)
            self._many_ahead[key] = many
        return self._many_ahead[key]

    def row_at(self, lot, number):
        """Tell the row of a number among all sorted whole rows from a lot on."""
        row = []
        next_lots = self._next_lots(lot)
        while next_lots:
            prop, left = next_lots.pop(0)
            many = self.how_many(left)
            if number < many:
                row.append(prop)
                next_lots = self._next_lots(left)
            else:
                # All rows that have this prop here go ahead of the one sought.
                number -= many
        return row

    def number_of(self, lot, row):
        """Tell the number of a whole row among all sorted ones from a lot on."""
        number = 0
        for prop in row:
            # Ahead of it are just the rows that have a lesser prop here.
            number += sum([self.how_many(left) for other, left in self._next_lots(lot) if other < prop])
            lot = without(lot, prop)
        return number
