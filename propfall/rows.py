"""Rows of givings: on a whole plank, by whatever tells which props of a lot are overlaid, or between two rests.

What is called bearing here is a Bearing, or something else that tells by its
method overlaid which props of a lot could go next.
"""

from propfall.checks import is_prop_of


def without(lot, prop):
    """Tell the lot that is like a lot but for a prop of it."""
    return tuple([other for other in lot if other != prop])


def but(lot, props):
    """Tell the lot of those of a lot that are none of some props."""
    return tuple([prop for prop in lot if prop not in props])


def givings_from(bearing, lot):
    """Tell a whole row of givings from a lot on, of all that could go next the first one each time."""
    row = []
    overlaid = bearing.overlaid(lot)
    while overlaid:
        row.append(overlaid[0])
        lot = without(lot, overlaid[0])
        overlaid = bearing.overlaid(lot)
    return row


def left_of(bearing, lot):
    """Tell the greatest lot within a lot that stands by itself."""
    return but(lot, givings_from(bearing, lot))


def left_between(bearing, left, lot, right):
    """Tell the lot that is left of a lot between two rests, whatever gives way when."""
    overlaid = bearing.overlaid_between(left, lot, right)
    while overlaid:
        # What is overlaid stays so while others go, so all may go at once.
        lot = but(lot, overlaid)
        overlaid = bearing.overlaid_between(left, lot, right)
    return lot


def are_unlike_props(lot, thing):
    """Tell whether a thing of any kind is a list of unlike props of the lot."""
    if type(thing) is not list:
        return False
    for at, prop in enumerate(thing):
        if not is_prop_of(lot, prop) or prop in thing[:at]:
            return False
    return True


def first_that_bears(bearing, lot, row):
    """Tell the place in a row of the first prop that isn't overlaid when its turn comes, None where each one is."""
    for at, prop in enumerate(row):
        if prop not in bearing.overlaid(lot):
            return at
        lot = without(lot, prop)
    return None


def fault_in_row(bearing, lot, thing):
    """Tell, of a thing of any kind, what it lacks of a whole row of givings from a lot on, None where it is one."""
    if not are_unlike_props(lot, thing):
        return ("form",)
    at = first_that_bears(bearing, lot, thing)
    if at is not None:
        return ("bears", at)
    overlaid = bearing.overlaid(but(lot, thing))
    if overlaid:
        return ("more", overlaid[0])
    return None


def is_whole_row(bearing, lot, thing):
    """Tell whether a thing of any kind is a whole row of givings from a lot on."""
    return fault_in_row(bearing, lot, thing) is None
