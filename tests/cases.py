"""Planks and weights to ask about: made once and for all, by a chance that is always the same."""

import random
from fractions import Fraction

import plainly
from plainly import everything, lots_within, pair
from propfall.planks import Plank


def fraction(chance, low, high):
    """Tell a fraction from low to high, bounds included."""
    bottom = chance.choice((1, 1, 2, 3, 5))
    return pair(Fraction(chance.randint(low * bottom, high * bottom), bottom))


def a_case(chance, most_props):
    """Tell a plank and weights."""
    length = chance.randint(max(2, most_props + 1), 12)
    many = chance.randint(0, most_props)
    places = sorted(chance.sample(range(1, length), many))
    props = [(place, fraction(chance, 0, chance.choice((0, 1, 2, 3, 5)))) for place in places]
    weights = []
    for _ in range(chance.randint(0, 8)):
        place = chance.choice([fraction(chance, 0, length)] * 3 + [(rest, 1) for rest in (0, *places, length)])
        weights.append((place, fraction(chance, 1, 4)))
    return Plank(length, props, bend=fraction(chance, 0, 4)), weights


def cases(many=150, most_props=5, seed=7):
    """Tell a list of tuples (plank, weights)."""
    chance = random.Random(seed)
    return [a_case(chance, most_props) for _ in range(many)]


def cases_with_lots(many=60, most_props=4, seed=11):
    """Tell a list of tuples (plank, weights, lot): each plank with each lot of its props."""
    return [(plank, weights, lot) for plank, weights in cases(many, most_props, seed)
            for lot in lots_within(everything(plank))]


def tight_cases(many=60, most_props=4, seed=21):
    """Tell a list of tuples (plank, weights): strengths that do, or nearly so, bends that some lots keep to."""
    chance = random.Random(seed)
    found = []
    for _ in range(many):
        length = chance.randint(most_props + 2, 14)
        places = sorted(chance.sample(range(1, length), chance.randint(1, most_props)))
        weights = [((chance.randint(0, 2 * length), 2), fraction(chance, 1, 4)) for _ in range(chance.randint(2, 6))]
        weights = [(pair(Fraction(*place)), weight) for place, weight in weights]
        plank = Plank(length, [(place, (0, 1)) for place in places])
        laid = plainly.laid(plank, weights, plainly.rests_of(plank, everything(plank)))
        props = []
        for prop, place in enumerate(places):
            factor = chance.choice((Fraction(1), Fraction(1), Fraction(6, 5), Fraction(3, 2), Fraction(2), Fraction(4), Fraction(4, 5)))
            props.append((place, pair(laid[prop] * factor + chance.choice((0, 0, 0, Fraction(1, 3))))))
        lot = chance.choice(lots_within(everything(plank)))
        bends = [plainly.bend(plank, weights, lot, place) for place, _ in weights]
        bend = pair(max(bends) * chance.choice((1, 1, Fraction(9, 10), Fraction(11, 10))))
        found.append((Plank(length, props, bend=bend), weights))
    return found


def great_case(strength=(0, 1)):
    """Tell a plank of twelve props of one strength and twenty weights, all told by about forty figures."""
    chance = random.Random(40)
    weights = []
    for _ in range(20):
        bottom = chance.randrange(10 ** 38, 2 * 10 ** 38)
        place = Fraction(chance.randrange(13 * bottom), bottom)
        weights.append((pair(place), pair(Fraction(chance.randrange(10 ** 39, 10 ** 40), 10 ** 40 - 1))))
    return Plank(13, [(place, strength) for place in range(1, 13)]), weights


def falling_case():
    """Tell a plank of twelve props that all fall, in whatever order, and its weights."""
    plank = Plank(13, [(place, (0, 1)) for place in range(1, 13)])
    return plank, [((place, 1), (1, 1)) for place in range(1, 13)]
