"""Trees of last ones, how many rows of givings there are, and how soon a prop goes."""

from propfall.bearing import asked
from propfall.checks import check_prop, is_lot_of
from propfall.counts import Counts
from propfall.errors import NoGivings, NoNumber, NoRest
from propfall.falls import FALLS, STANDS
from propfall.fractions import is_whole
from propfall.lasts import Lasts, between, is_tree_between
from propfall.rows import fault_in_row, givings_from, left_of, without

GOES = "goes"
STAYS = "stays"
BEARS = "bears"
LEFT = "left"
RIGHT = "right"


def _check_rests(rests, left, right):
    """Refuse what are no two of the rests, the left one below the right one."""
    if not is_whole(left) or left not in rests:
        raise NoRest(left)
    if not is_whole(right) or right not in rests or not left < right:
        raise NoRest(right)


def tree(plank, weights, left, right, *, lot=None):
    """Tell ("goes", a tree) of those between two rests, or ("stays", the lot of those that are left)."""
    bearing, lot = asked(plank, weights, lot)
    _check_rests(bearing.rests(lot), left, right)
    lasts = Lasts(bearing, lot)
    if lasts.all_go(left, right):
        return (GOES, lasts.tree(left, right))
    return (STAYS, lasts.staying(left, right))


def is_tree(plank, weights, left, right, thing, *, lot=None):
    """Tell, of anything, whether it is a tree of those between two rests."""
    bearing, lot = asked(plank, weights, lot)
    _check_rests(bearing.rests(lot), left, right)
    return is_tree_between(bearing, lot, left, right, thing)


def how_many(plank, weights, *, lot=None):
    """Tell how many whole rows of givings there are from the lot on."""
    bearing, lot = asked(plank, weights, lot)
    return Counts(bearing).how_many(lot)


def ahead(plank, weights, one, other, *, lot=None):
    """Tell in how many whole rows of givings the one goes ahead of the other."""
    bearing, lot = asked(plank, weights, lot)
    falling = givings_from(bearing, lot)
    check_prop(falling, one)
    check_prop(without(falling, one), other)
    return Counts(bearing).many_ahead(lot, one, other)


def row_at(plank, weights, number, *, lot=None):
    """Tell the whole row of givings that has a number among all, sorted."""
    bearing, lot = asked(plank, weights, lot)
    counts = Counts(bearing)
    if not is_whole(number) or not 0 <= number < counts.how_many(lot):
        raise NoNumber()
    return counts.row_at(lot, number)


def number_of(plank, weights, row, *, lot=None):
    """Tell the number that a whole row of givings has among all, sorted."""
    bearing, lot = asked(plank, weights, lot)
    fault = fault_in_row(bearing, lot, row)
    if fault is not None:
        raise NoGivings(fault)
    return Counts(bearing).number_of(lot, row)


def _ends_around(bearing, lot, prop):
    """Tell a sorted list of tuples (left, right): each two rests, left of a prop and right of it."""
    rests = bearing.rests(lot)
    return [(left, right) for left in rests if left < prop for right in rests if right > prop]


def soonest(plank, weights, prop, *, lot=None):
    """Tell ("falls", a row of the fewest givings that ends with the prop) or ("stands", a lot that shows it)."""
    bearing, lot = asked(plank, weights, lot)
    check_prop(lot, prop)
    lasts = Lasts(bearing, lot)
    ways = [(len(between(lot, left, right)), left, right)
            for left, right in _ends_around(bearing, lot, prop) if lasts.goes_last(left, prop, right)]
    if not ways:
        return (STANDS, left_of(bearing, lot))
    fewest = min(ways)
    return (FALLS, lasts.row_to(fewest[1], prop, fewest[2]))


def _asked_sooner(plank, weights, prop, many, lot):
    """Tell the bearing, the lot, and the ends between which are at most so many, where nothing is to be refused."""
    bearing, lot = asked(plank, weights, lot)
    check_prop(lot, prop)
    if not is_whole(many) or many < 1:
        raise NoNumber()
    ends = [(left, right) for left, right in _ends_around(bearing, lot, prop)
            if len(between(lot, left, right)) <= many]
    return bearing, lot, ends


def _reason(bearing, lasts, left, prop, right):
    """Tell a reason why all between two rests don't go, the prop last, None where they do."""
    if not bearing.is_overlaid(left, prop, right):
        return (BEARS,)
    if not lasts.all_go(left, prop):
        return (LEFT, lasts.staying(left, prop))
    if not lasts.all_go(prop, right):
        return (RIGHT, lasts.staying(prop, right))
    return None


def no_sooner(plank, weights, prop, many, *, lot=None):
    """Tell papers that the prop doesn't go by so many givings or fewer, None where it does."""
    bearing, lot, ends = _asked_sooner(plank, weights, prop, many, lot)
    lasts = Lasts(bearing, lot)
    papers = [(left, right, _reason(bearing, lasts, left, prop, right)) for left, right in ends]
    if any([paper[2] is None for paper in papers]):
        return None
    return papers


def _is_staying(bearing, lot, left, right, thing):
    """Tell whether a thing of any kind is a lot, not bare, of those between two rests, none of it overlaid there."""
    if not is_lot_of(between(lot, left, right), thing) or not thing:
        return False
    return not bearing.overlaid_between(left, thing, right)


def _is_reason(bearing, lot, left, prop, right, thing):
    """Tell whether a thing of any kind is a right reason why all between two rests don't go, the prop last."""
    if type(thing) is not tuple or len(thing) not in (1, 2):
        return False
    word = thing[0]
    if type(word) is not str:
        return False
    if len(thing) == 1:
        return word == BEARS and not bearing.is_overlaid(left, prop, right)
    if word == LEFT:
        return _is_staying(bearing, lot, left, prop, thing[1])
    return word == RIGHT and _is_staying(bearing, lot, prop, right, thing[1])


def _is_paper(bearing, lot, ends, prop, thing):
    """Tell whether a thing of any kind is a right tuple (left, right, reason) of just these ends."""
    if type(thing) is not tuple or len(thing) != 3:
        return False
    left, right, reason = thing
    if not is_whole(left) or not is_whole(right) or (left, right) != ends:
        return False
    return _is_reason(bearing, lot, left, prop, right, reason)


def is_no_sooner(plank, weights, prop, many, thing, *, lot=None):
    """Tell, of anything, whether it is papers that the prop doesn't go by so many givings or fewer."""
    bearing, lot, ends = _asked_sooner(plank, weights, prop, many, lot)
    if type(thing) is not list or len(thing) != len(ends):
        return False
    return all([_is_paper(bearing, lot, there, prop, paper) for there, paper in zip(ends, thing)])
