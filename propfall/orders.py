"""In which orders loadings are put on a plank, each by itself, and what each order leaves."""


def first_orders(everything):
    """Tell what is left behind the order of no loadings: all props, by one order, the bare one."""
    return {(): {everything: (1, [])}}


def _put_into(lots, lot, many, row):
    """Put so many more orders that leave a lot, the least of them told, into a dict of lots."""
    if lot in lots:
        known = lots[lot]
        many, row = known[0] + many, min(known[1], row)
    lots[lot] = (many, row)


def longer_orders(lying, numbers, shorter):
    """Tell the orders of one loading more than shorter ones, by what is left behind those.

    Orders are a dict from tuples of numbers of loadings, rising, to dicts from
    each lot that some order of just these leaves to (many, row): in how many of
    their orders it is left, and the least one of these.
    """
    longer = {}
    for some, lots in shorter.items():
        for k in numbers:
            if k not in some:
                found = longer.setdefault(tuple(sorted([*some, k])), {})
                # Whatever comes behind, a lesser order ahead of it stays the lesser one.
                for lot, (many, row) in lots.items():
                    _put_into(found, lying.left((k,), lot), many, row + [k])
    return longer
