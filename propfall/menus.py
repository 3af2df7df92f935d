"""The cheapest props of a menu that hold a loading, and the cheapest mending of a plank, with prices as papers."""

from propfall.checks import check_weights
from propfall.costs import Buying, Mending
from propfall.errors import NoMenu
from propfall.fractions import is_from_nought, is_whole
from propfall.pathways import NONE, Pathways
from propfall.planks import Plank

MOST_THINGS = 24
MOST_PRICE = 1000000
BOUGHT = "bought"
MENDED = "mended"


def _is_price(thing):
    """Tell whether a thing of any kind is a price."""
    return is_whole(thing) and 0 <= thing <= MOST_PRICE


def _is_on_menu(plank, thing):
    """Tell whether a thing of any kind is a prop's place on the plank, its strength and its price."""
    if type(thing) is not tuple or len(thing) != 3:
        return False
    place, strength, price = thing
    return is_whole(place) and 0 < place < plank.length() and is_from_nought(strength) and _is_price(price)


def _check_menu(plank, menu):
    """Refuse what is no menu."""
    if type(menu) is not list:
        raise NoMenu(-1)
    for at, thing in enumerate(menu):
        if at >= MOST_THINGS or not _is_on_menu(plank, thing):
            raise NoMenu(at)


def _ways_of_menu(weights, length, bend, menu):
    """Tell the ways over a plank by what is on the menu, where nothing is to be refused."""
    plank = Plank(length, [], bend=bend)
    _check_menu(plank, menu)
    check_weights(plank, weights)
    return Pathways(Buying(plank, menu, weights))


def _told(word, ways):
    """Tell (word, price, list, prices) of the cheapest way, or ("none", prices) where there is no way."""
    found = ways.cheapest()
    if not found:
        return (NONE, ways.prices())
    price, parts = found[0]
    return (word, price, parts, ways.prices())


def cheapest(weights, *, length, bend, menu):
    """Tell ("bought", price, buying, prices): the cheapest props that hold, or ("none", prices)."""
    return _told(BOUGHT, _ways_of_menu(weights, length, bend, menu))


def barred(weights, thing, *, length, bend, menu):
    """Tell, of anything, what it bars as prices of buyings: ("least", number) or ("none",), None where it is none."""
    return _ways_of_menu(weights, length, bend, menu).barred(thing)


def _check_each(plank, each):
    """Refuse what are no prices, one for each prop."""
    if type(each) is not list or len(each) != plank.count():
        raise NoMenu(-1)
    for at, price in enumerate(each):
        if not _is_price(price):
            raise NoMenu(at)


def _ways_of_mending(plank, weights, each):
    """Tell the ways over a plank by its props, mended, where nothing is to be refused."""
    check_weights(plank, weights)
    _check_each(plank, each)
    return Pathways(Mending(plank, each, weights))


def mended(plank, weights, *, each):
    """Tell ("mended", price, measures, prices): the cheapest measures by which it holds, or ("none", prices)."""
    return _told(MENDED, _ways_of_mending(plank, weights, each))


def mend_barred(plank, weights, thing, *, each):
    """Tell, of anything, what it bars as prices of mendings: ("least", number) or ("none",), None where it is none."""
    return _ways_of_mending(plank, weights, each).barred(thing)
