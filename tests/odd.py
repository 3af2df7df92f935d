"""Things of all kinds, to be handed in where something else is due."""


class Quarrelsome:
    """An object that can't be compared, hashed, measured or asked for its truth."""

    __hash__ = None

    def _quarrel(self, *others):
        raise RuntimeError("asked")

    __eq__ = __ne__ = __lt__ = __le__ = __gt__ = __ge__ = _quarrel
    __bool__ = __len__ = __iter__ = __index__ = __int__ = __repr__ = _quarrel


class Agreeable:
    """An object that says it is equal to everything."""

    __hash__ = None

    def __eq__(self, other):
        return True


def odd_things():
    """Tell things that are no whole number, no fraction, no list and no tuple of two."""
    return [None, True, False, 1.0, 2.5, float("nan"), float("inf"), 1j, "", "1", "text", b"", b"1",
            (), (1,), (1, 1, 1), {}, {0: 1}, set(), {1, 2}, frozenset(), object(), Quarrelsome(), Agreeable(),
            len, int, lambda: 0, range(2), iter([1]), NotImplemented, ...]


def no_fractions():
    """Tell things that are no fractions, some nearly."""
    return odd_things() + [
        0, 1, -1, [], [1, 1], [0, 1], (0, 2), (2, 4), (6, 3), (10 ** 40, 10), (1, 0), (0, 0), (1, -1), (0, -1),
        (-1, -2), (1, -2), (-2, 2), (True, 1), (1, True), (False, 1), (1.0, 1), (1, 1.0), ("1", 1), (1, "1"),
        (None, 1), (1, None), ((1, 1), 1), ([1], 1), (1, [1]), ({}, set()), (Agreeable(), 1), (1, Quarrelsome()),
        "12", b"12", {1: 1, 2: 1}]


def no_fractions_from_nought():
    """Tell things that are no fractions from nought on, some nearly."""
    return no_fractions() + [(-1, 1), (-1, 2), (-3, 2), (1 - 10 ** 40, 1), (-1, 10 ** 40)]
