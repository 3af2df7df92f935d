"""What overlays props, told otherwise than by one bearing alone."""


class Sparing:
    """What a bearing overlays where some props are as strong as one likes."""

    def __init__(self, bearing, spared):
        self._bearing = bearing
        self._spared = spared

    def overlaid(self, lot):
        """Tell a list of the props of a lot that are overlaid while just it stands."""
        return [prop for prop in self._bearing.overlaid(lot) if prop not in self._spared]


class UnderAny:
    """What any one of several bearings overlays, each of them by itself."""

    def __init__(self, bearings):
        self._bearings = bearings

    def overlaid(self, lot):
        """Tell a list of the props of a lot that are overlaid while just it stands."""
        found = [bearing.overlaid(lot) for bearing in self._bearings]
        return [prop for prop in lot if any([prop in overlaid for overlaid in found])]
