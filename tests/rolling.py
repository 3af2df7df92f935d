"""The document's own words on carts, said over again plainly and slowly, to compare with; carts to ask about."""

import random
from fractions import Fraction
from itertools import product

import plainly
from cases import fraction
from plainly import everything, lots_within, pair

TINY = Fraction(1, 10 ** 12)


def with_carts(plank, weights, carts, places):
    """Tell the weights and what the carts' axles at these places put on the plank."""
    found = list(weights)
    for cart, place in zip(carts, places):
        for behind, weight in cart:
            at = place - Fraction(*behind)
            if at >= 0:
                found.append((pair(at), weight))
    return found


def overlaid_at(plank, weights, cart, lot, place):
    return plainly.overlaid(plank, with_carts(plank, weights, [cart], [place]), lot)


def turns(plank, cart, start, goal):
    """Tell all places of a way at which an axle is at a rest, and its ends: between two of them all runs straight."""
    low, high = sorted((start, goal))
    found = {low, high}
    for rest in plainly.rests_of(plank, everything(plank)):
        found |= {plank.place_of(rest) + Fraction(*behind) for behind, _ in cart}
    return sorted((place for place in found if low <= place <= high), reverse=goal < start)


def step_on(start, goal):
    """Tell the least step from start towards goal."""
    return TINY if start < goal else -TINY


def first_met(plank, weights, cart, lot, start, goal):
    """Tell (place, props): the first place at or right behind which some of a lot are overlaid, and which; or None."""
    if start == goal:
        met = overlaid_at(plank, weights, cart, lot, start)
        return (start, met) if met else None
    on_way = turns(plank, cart, start, goal)
    for here, there in zip(on_way, on_way[1:]):
        crossings = []
        for prop in lot:
            strength = Fraction(*plank.props()[prop][1])
            loads = []
            for place in (here, there):
                rests = plainly.rests_of(plank, lot)
                loads.append(plainly.laid(plank, with_carts(plank, weights, [cart], [place]), rests)[prop])
            if loads[0] > strength:
                crossings.append((Fraction(0), prop))
            elif loads[1] > strength:
                crossings.append(((strength - loads[0]) / (loads[1] - loads[0]), prop))
        if crossings:
            first = min(crossings)[0]
            return here + (there - here) * first, sorted(prop for step, prop in crossings if step == first)
    return None


def rolled(plank, weights, cart, start, goal, lot):
    """Tell what goes on the way, from event to event."""
    left = plainly.standing(plank, with_carts(plank, weights, [cart], [start]), lot)
    put, events, here = plainly_but(lot, left), [], start
    met = first_met(plank, weights, cart, left, here, goal) if start != goal else None
    while met is not None:
        place = met[0]
        near = with_carts(plank, weights, [cart], [place + step_on(start, goal)])
        behind = plainly.standing(plank, near, left)
        events.append((pair(place), plainly_but(left, behind)))
        left, here = behind, place
        met = first_met(plank, weights, cart, left, here, goal)
    return put, events, left


def plainly_but(lot, some):
    return tuple(prop for prop in lot if prop not in some)


def for_ever(plank, weights, rolls, lot):
    """Tell the greatest lot that stands by itself with the carts at all turns of all ways at once."""
    carts = [cart for cart, _, _ in rolls]
    places = list(product(*[turns(plank, cart, Fraction(*start), Fraction(*goal)) for cart, start, goal in rolls]))
    standing_ones = [some for some in lots_within(lot)
                     if not any(plainly.overlaid(plank, with_carts(plank, weights, carts, there), some)
                                for there in places)]
    return max(standing_ones, key=len)


def a_cart(chance, most_axles=4, heavy=3):
    """Tell a cart."""
    behind, cart = Fraction(0), []
    for _ in range(chance.randint(1, most_axles)):
        cart.append((pair(behind), pair(Fraction(chance.randint(1, 2 * heavy), chance.choice((1, 2, 3))))))
        behind += Fraction(chance.randint(1, 6), chance.choice((1, 2, 3)))
    return cart


def ways(chance, plank):
    """Tell tuples (start, goal) to roll over: wall to wall, both ways, to the same place, and others."""
    length = (plank.length(), 1)
    some = fraction(chance, 0, plank.length())
    return [((0, 1), length), (length, (0, 1)), (some, some), (some, fraction(chance, 0, plank.length()))]


def cases_with_carts(planks, seed, most_axles=4):
    """Tell tuples (plank, weights, cart, start, goal)."""
    chance = random.Random(seed)
    found = []
    for plank, weights in planks:
        cart = a_cart(chance, most_axles)
        found += [(plank, weights, cart, start, goal) for start, goal in ways(chance, plank)]
    return found
