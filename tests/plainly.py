"""The document's own words on loads and falls, said over again plainly and slowly, to compare with."""

from fractions import Fraction
from itertools import combinations


def pair(number):
    """Tell a Fraction as the program does."""
    return (number.numerator, number.denominator)


def told(weights):
    """Tell weights with Fractions for their tuples."""
    return [(Fraction(*place), Fraction(*weight)) for place, weight in weights]


def everything(plank):
    return tuple(range(plank.count()))


def rests_of(plank, lot):
    return [-1, *lot, plank.count()]


def laid(plank, weights, rests):
    """Tell a dict from rests to what lies on them while just these stand; what lies beyond them is left out."""
    on = {rest: Fraction(0) for rest in rests}
    at = {plank.place_of(rest): rest for rest in rests}
    for place, weight in told(weights):
        if place in at:
            on[at[place]] += weight
            continue
        for left, right in zip(rests, rests[1:]):
            a, b = plank.place_of(left), plank.place_of(right)
            if a < place < b:
                on[left] += weight * (b - place) / (b - a)
                on[right] += weight * (place - a) / (b - a)
    return on


def overlaid(plank, weights, lot, left=None, right=None):
    """Tell the props of a lot that are overlaid, between the walls or two told rests."""
    rests = [-1 if left is None else left, *lot, plank.count() if right is None else right]
    on = laid(plank, weights, rests)
    return [prop for prop in lot if on[prop] > Fraction(*plank.props()[prop][1])]


def without(lot, prop):
    return tuple(other for other in lot if other != prop)


def whole_rows(plank, weights, lot, left=None, right=None):
    """Tell all whole rows of givings, going through them one by one; they come out sorted."""
    going = overlaid(plank, weights, lot, left, right)
    if not going:
        return [[]]
    return [[prop] + row for prop in going for row in whole_rows(plank, weights, without(lot, prop), left, right)]


def lots_within(lot):
    return [some for many in range(len(lot) + 1) for some in combinations(lot, many)]


def standing(plank, weights, lot):
    """Tell the one of the lots within a lot that stand by themselves that has all others within it."""
    standing_ones = [some for some in lots_within(lot) if not overlaid(plank, weights, some)]
    greatest = [some for some in standing_ones if all(set(other) <= set(some) for other in standing_ones)]
    assert len(greatest) == 1
    return greatest[0]


def is_row(plank, weights, lot, row):
    """Tell whether each one of a row is overlaid when those ahead have given way."""
    for prop in row:
        if prop not in overlaid(plank, weights, lot):
            return False
        lot = without(lot, prop)
    return True


def fewest(plank, weights, lot, prop):
    """Tell the fewest givings by which a prop goes, going through all ways; None where it stands."""
    lots, many = [lot], 0
    while lots:
        many += 1
        nexts = set()
        for some in lots:
            going = overlaid(plank, weights, some)
            if prop in going:
                return many
            nexts.update(without(some, other) for other in going)
        lots = sorted(nexts)
    return None


def between(lot, left, right):
    return tuple(prop for prop in lot if left < prop < right)


def all_trees(plank, weights, lot, left, right):
    """Tell all trees of the props of a lot between two rests."""
    inner = between(lot, left, right)
    if not inner:
        return [None]
    return [(last, before, behind) for last in inner if overlaid(plank, weights, (last,), left, right)
            for before in all_trees(plank, weights, lot, left, last)
            for behind in all_trees(plank, weights, lot, last, right)]


def ends_around(plank, lot, prop, many):
    """Tell all two rests left and right of a prop between which are at most so many, sorted."""
    rests = rests_of(plank, lot)
    return sorted((left, right) for left in rests for right in rests
                  if left < prop < right and len(between(lot, left, right)) <= many)


def reasons(plank, weights, lot, left, prop, right):
    """Tell all right reasons why all between two rests don't go, the prop last."""
    found = [] if overlaid(plank, weights, (prop,), left, right) else [("bears",)]
    for word, one, other in (("left", left, prop), ("right", prop, right)):
        for some in lots_within(between(lot, one, other)):
            if some and not overlaid(plank, weights, some, one, other):
                found.append((word, some))
    return found


def bend(plank, weights, lot, place):
    """Tell the bend at a place."""
    place = Fraction(*place)
    rests = rests_of(plank, lot)
    for left, right in zip(rests, rests[1:]):
        a, b = plank.place_of(left), plank.place_of(right)
        if a <= place <= b:
            return sum((weight * (min(x, place) - a) * (b - max(x, place)) / (b - a)
                        for x, weight in told(weights) if a < x < b), Fraction(0))
    raise AssertionError("no board")
