"""Rows of givings, between two rests that stand whatever lies on them or on a whole plank."""

from propfall.checks import is_prop_of


def without(lot, prop):
    """Tell the lot that is like a lot but for a prop of it."""
    return tuple([other for other in lot if other != prop])


def givings_between(bearing, left, lot, right):
    """Tell a whole row of givings of a lot between two rests."""
    row = []
    overlaid = bearing.overlaid_between(left, lot, right)
    while overlaid:
        row.append(overlaid[0])
        lot = without(lot, overlaid[0])
        overlaid = bearing.overlaid_between(left, lot, right)
    return row


def left_between(bearing, left, lot, right):
    """Tell the lot that is left of a lot between two rests, whatever gives way when."""
    row = givings_between(bearing, left, lot, right)
    return tuple([prop for prop in lot if prop not in row])


def givings_from(bearing, lot):
    """Tell a whole row of givings from a lot on."""
    rests = bearing.rests(lot)
    return givings_between(bearing, rests[0], lot, rests[-1])


def left_of(bearing, lot):
    """Tell the greatest lot within a lot that stands by itself."""
    rests = bearing.rests(lot)
    return left_between(bearing, rests[0], lot, rests[-1])


def are_unlike_props(lot, thing):
    """Tell whether a thing of any kind is a list of unlike props of the lot."""
    if type(thing) is not list:
        return False
    for at, prop in enumerate(thing):
        if not is_prop_of(lot, prop) or prop in thing[:at]:
            return False
    return True


def first_that_bears(bearing, lot, row):
    """Tell the place in a row of the first prop that isn't overlaid when its turn comes, None where each one is."""
    for at, prop in enumerate(row):
        if prop not in bearing.overlaid(lot):
            return at
        lot = without(lot, prop)
    return None


def fault_in_row(bearing, lot, thing):
    """Tell, of a thing of any kind, what it lacks of a whole row of givings from a lot on, None where it is one."""
    if not are_unlike_props(lot, thing):
        return ("form",)
    at = first_that_bears(bearing, lot, thing)
    if at is not None:
        return ("bears", at)
    overlaid = bearing.overlaid(tuple([prop for prop in lot if prop not in thing]))
    if overlaid:
        return ("more", overlaid[0])
    return None
