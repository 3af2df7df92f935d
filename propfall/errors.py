"""The refusals: each stands right under FallError, none under another one."""


class FallError(ValueError):
    """Any refusal."""


class NoPlank(FallError):
    """No plank; part is the first of "length", "props", "bend" that is wrong."""

    def __init__(self, part):
        self.part = part


class NoStrengths(FallError):
    """No list of as many strengths as the plank has props."""


class NoRest(FallError):
    """No rest; rest is what was handed in as one."""

    def __init__(self, rest):
        self.rest = rest


class NoWeights(FallError):
    """No weights; at is the place of the first that is none, -1 of no list."""

    def __init__(self, at):
        self.at = at


class NoPlace(FallError):
    """No place on the plank; place is what was handed in as one."""

    def __init__(self, place):
        self.place = place


class NoLot(FallError):
    """No lot of props, or not of those that are asked for."""


class NoProp(FallError):
    """No prop, or none of those that are asked for; prop is what was handed in."""

    def __init__(self, prop):
        self.prop = prop


class NoNumber(FallError):
    """No whole number, or none of those that are asked for."""


class NoGivings(FallError):
    """No whole row of givings; fault is what row_fault tells of it."""

    def __init__(self, fault):
        self.fault = fault


class NoWeight(FallError):
    """No further weight."""


class NoLoadings(FallError):
    """No loadings; at is the number of the first that is none, -1 of no such list."""

    def __init__(self, at):
        self.at = at


class NoCart(FallError):
    """No cart; at is the number of the first axle that is none, -1 of no such list."""

    def __init__(self, at):
        self.at = at


class NoRow(FallError):
    """No row of loadings."""


class NoDeed(FallError):
    """No deeds; at is the number of the first that can't be done, -1 of no such list."""

    def __init__(self, at):
        self.at = at


class TooMany(FallError):
    """More states than are looked at; many is how many are."""

    def __init__(self, many):
        self.many = many


class NoMenu(FallError):
    """No menu or no prices; at is the place of the first that is none, -1 of no list."""

    def __init__(self, at):
        self.at = at
