"""Planks: which are some, what they tell, which are equal [2, 3, 5]."""

import unittest

from odd import Agreeable, no_fractions_from_nought, odd_things
from propfall.errors import FallError, NoPlank, NoRest, NoStrengths
from propfall.planks import Plank

GREAT = 10 ** 40 - 1
STRENGTHS = [(0, 1), (1, 1), (1, 2), (7, 3), (GREAT, 1), (1, GREAT), (GREAT, GREAT - 1), (10 ** 90, 10 ** 90 + 1)]
PROPS = [(1, (0, 1)), (4, (5, 2)), (9, (3, 1))]


def twelve_props():
    return [(place, STRENGTHS[place % len(STRENGTHS)]) for place in range(1, 13)]


def part_refused(*told, **named):
    """Tell the field of the NoPlank that refuses a plank, or None where it is one."""
    try:
        Plank(*told, **named)
    except NoPlank as refusal:
        return refusal.part
    return None


class PlanksThatAre(unittest.TestCase):
    def check(self, length, props, bend):
        plank = Plank(length, props, bend=bend)
        for _ in range(2):
            self.assertEqual((plank.length(), plank.props(), plank.bend()), (length, props, bend))
            self.assertIs(type(plank.props()), list)
            self.assertEqual(plank.count(), len(props))
            places = [0] + [place for place, _ in props] + [length]
            self.assertEqual([plank.place_of(rest) for rest in range(-1, len(props) + 1)], places)

    def test_lengths(self):
        for length in (2, 3, 10, 999, 1000):
            self.check(length, [], None)
            self.check(length, [(1, (1, 1))], (1, 2))
            self.check(length, [(length - 1, (1, 1))], (1, 2))

    def test_none_to_twelve_props(self):
        for many in range(13):
            self.check(13, twelve_props()[:many], None)
            self.check(1000, twelve_props()[:many], (3, 1))

    def test_props_side_by_side_and_far_apart(self):
        self.check(3, [(1, (0, 1)), (2, (0, 1))], None)
        self.check(1000, [(1, (1, 1)), (999, (1, 1))], None)

    def test_strengths_and_bends(self):
        for fraction in STRENGTHS:
            self.check(10, [(3, fraction), (7, fraction)], fraction)

    def test_no_bend_is_none_and_may_be_left_out(self):
        self.assertIsNone(Plank(10, PROPS).bend())
        self.assertEqual(Plank(10, PROPS), Plank(10, PROPS, bend=None))

    def test_the_interface_is_in_the_class_itself(self):
        for name in ("length", "count", "place_of", "props", "bend", "strengthened", "__eq__"):
            self.assertIn(name, vars(Plank))
        self.assertEqual(Plank.__module__, "propfall.planks")

    def test_the_bend_is_handed_in_by_its_name(self):
        self.assertRaises(TypeError, lambda: Plank(10, [], (1, 1)))


class PlanksThatAreNone(unittest.TestCase):
    def test_no_lengths(self):
        for thing in odd_things() + [1, 0, -1, -2, 1001, GREAT, (10, 1), [10], "10"]:
            self.assertEqual(part_refused(thing, []), "length")
            self.assertEqual(part_refused(thing, PROPS, bend=(1, 1)), "length")

    def test_no_lists_of_props(self):
        for thing in odd_things() + [0, 1, tuple(PROPS), (PROPS,), dict(PROPS), iter(PROPS), (4, (1, 1)), "props"]:
            self.assertEqual(part_refused(10, thing), "props")

    def test_no_props_in_the_list(self):
        for thing in odd_things() + [0, 4, [], [4, (1, 1)], (4, (1, 1), 1), ((1, 1), 4), (4,), PROPS, {4: (1, 1)}]:
            self.assertEqual(part_refused(10, [thing]), "props")
            self.assertEqual(part_refused(10, [(2, (1, 1)), thing]), "props")
            self.assertEqual(part_refused(10, [thing, (8, (1, 1))]), "props")

    def test_no_places_of_props(self):
        for thing in odd_things() + [0, -1, 10, 11, GREAT, -GREAT, (4, 1), [4]]:
            self.assertEqual(part_refused(10, [(thing, (1, 1))]), "props")
            self.assertEqual(part_refused(10, [(2, (1, 1)), (thing, (1, 1))]), "props")

    def test_places_that_do_not_rise(self):
        for places in ([4, 4], [4, 3], [1, 2, 2], [1, 3, 2], [2, 1, 3], [9, 8, 7], [1, 5, 5, 9]):
            self.assertEqual(part_refused(10, [(place, (1, 1)) for place in places]), "props")

    def test_no_strengths_of_props(self):
        for thing in no_fractions_from_nought():
            self.assertEqual(part_refused(10, [(4, thing)]), "props")
            self.assertEqual(part_refused(10, [(2, (1, 1)), (4, thing), (6, (1, 1))]), "props")

    def test_a_thirteenth_prop(self):
        props = twelve_props() + [(13, (1, 1))]
        self.assertEqual(part_refused(14, props), "props")
        self.assertEqual(part_refused(1000, props, bend=(1, 1)), "props")
        self.assertIsNone(part_refused(14, props[:12]))
        self.assertIsNone(part_refused(14, props[1:]))

    def test_no_bends(self):
        for thing in no_fractions_from_nought():
            if thing is not None:
                self.assertEqual(part_refused(10, PROPS, bend=thing), "bend")
                self.assertEqual(part_refused(10, [], bend=thing), "bend")

    def test_the_first_wrong_part_is_told(self):
        for thing in odd_things():
            self.assertEqual(part_refused(thing, thing, bend=thing), "length")
            self.assertEqual(part_refused(thing, thing, bend=None), "length")
            self.assertEqual(part_refused(thing, PROPS, bend=(2, 2)), "length")
            self.assertEqual(part_refused(10, thing, bend=(2, 2)), "props")
        self.assertEqual(part_refused(1, [(1, (1, 1))], bend=(1, 0)), "length")
        self.assertEqual(part_refused(4, [(4, (1, 1))], bend=(1, 0)), "props")

    def test_it_is_refused_under_the_base(self):
        self.assertRaises(FallError, Plank, None, None)


class Rests(unittest.TestCase):
    def test_what_is_no_rest(self):
        for props, beyond in (([], 1), (PROPS, 4), (twelve_props(), 13)):
            plank = Plank(20, props)
            for thing in odd_things() + [-2, beyond, GREAT, -GREAT, [0], [], (0, 1), (0,), "0"]:
                with self.assertRaises(NoRest) as caught:
                    plank.place_of(thing)
                self.assertIs(caught.exception.rest, thing)


class Strengthened(unittest.TestCase):
    def test_another_plank_with_these_strengths(self):
        for bend in (None, (0, 1), (7, 2)):
            plank = Plank(10, PROPS, bend=bend)
            other = plank.strengthened([(1, 3), (0, 1), (GREAT, 2)])
            self.assertIs(type(other), Plank)
            self.assertEqual(other.props(), [(1, (1, 3)), (4, (0, 1)), (9, (GREAT, 2))])
            self.assertEqual((other.length(), other.bend(), other.count()), (10, bend, 3))
            self.assertEqual((plank.length(), plank.props(), plank.bend()), (10, PROPS, bend))

    def test_as_many_as_there_are(self):
        bare, full = Plank(10, []), Plank(13, twelve_props())
        self.assertEqual(bare.strengthened([]), bare)
        told = full.strengthened([(5, 1)] * 12)
        self.assertEqual(told.props(), [(place, (5, 1)) for place in range(1, 13)])
        self.assertEqual(full.strengthened([strength for _, strength in full.props()]), full)

    def test_too_few_and_too_many(self):
        for props in ([], PROPS, twelve_props()):
            plank = Plank(20, props)
            for many in range(14):
                if many != len(props):
                    self.assertRaises(NoStrengths, plank.strengthened, [(1, 1)] * many)
            self.assertEqual(plank.props(), props)

    def test_no_lists_of_strengths(self):
        plank = Plank(10, PROPS)
        for thing in odd_things() + [0, 3, ((1, 1), (1, 1), (1, 1)), {(1, 1): 0}, "abc", iter([(1, 1)] * 3), PROPS]:
            self.assertRaises(NoStrengths, plank.strengthened, thing)
        for thing in ((), "", None, {}, [[]], [None]):
            self.assertRaises(NoStrengths, Plank(10, []).strengthened, thing)
        self.assertEqual(plank, Plank(10, PROPS))

    def test_no_strengths_in_the_list(self):
        plank = Plank(10, PROPS)
        for thing in no_fractions_from_nought():
            for at in range(3):
                strengths = [(1, 1), (2, 1), (3, 1)]
                strengths[at] = thing
                self.assertRaises(NoStrengths, plank.strengthened, strengths)
        self.assertEqual(plank, Plank(10, PROPS))


class Equal(unittest.TestCase):
    def test_where_all_three_are(self):
        for bend in (None, (0, 1), (7, 2)):
            one, other = Plank(10, list(PROPS), bend=bend), Plank(10, list(PROPS), bend=bend)
            self.assertIs(one == other, True)
            self.assertIs(one != other, False)
            self.assertIs(one == one, True)

    def test_not_where_one_of_them_is_not(self):
        plank = Plank(10, PROPS, bend=(1, 2))
        others = [Plank(11, PROPS, bend=(1, 2)), Plank(10, PROPS), Plank(10, PROPS, bend=(1, 3)),
                  Plank(10, [], bend=(1, 2)), Plank(10, PROPS[:2], bend=(1, 2)), Plank(10, PROPS[1:], bend=(1, 2)),
                  Plank(10, [(2, (0, 1))] + PROPS[1:], bend=(1, 2)), Plank(10, [(1, (1, 1))] + PROPS[1:], bend=(1, 2)),
                  Plank(10, PROPS[:2] + [(9, (4, 1))], bend=(1, 2)), Plank(10, PROPS[:2] + [(8, (3, 1))], bend=(1, 2))]
        for other in others:
            self.assertIs(plank == other, False)
            self.assertIs(other == plank, False)
            self.assertIs(plank != other, True)

    def test_no_bend_is_not_a_bend_of_nought(self):
        self.assertNotEqual(Plank(10, PROPS), Plank(10, PROPS, bend=(0, 1)))

    def test_to_nothing_else(self):
        plank = Plank(10, PROPS)
        things = [None, True, 10, "plank", b"", PROPS, (10, PROPS, None), (10, tuple(PROPS), None), {}, object(),
                  Plank, Agreeable(), plank.length]
        for thing in things:
            self.assertIs(plank == thing, False)
            self.assertIs(plank != thing, True)


class NothingIsKept(unittest.TestCase):
    def test_a_list_of_props_that_is_changed_later(self):
        props = list(PROPS)
        plank = Plank(10, props)
        props[0] = (2, (8, 1))
        props.append((5, None))
        self.assertEqual(plank.props(), PROPS)
        props.clear()
        self.assertEqual((plank.count(), plank.place_of(0), plank), (3, 1, Plank(10, PROPS)))

    def test_a_list_that_was_told(self):
        plank = Plank(10, PROPS)
        told = plank.props()
        self.assertIsNot(told, plank.props())
        told[0] = None
        told.pop()
        self.assertEqual(plank.props(), PROPS)
        self.assertEqual((plank.count(), plank.place_of(2)), (3, 9))

    def test_a_list_of_strengths_that_is_changed_later(self):
        strengths = [(1, 1), (2, 1), (3, 1)]
        told = Plank(10, PROPS).strengthened(strengths)
        strengths[1] = (9, 1)
        strengths.append(None)
        self.assertEqual(told.props(), [(1, (1, 1)), (4, (2, 1)), (9, (3, 1))])

    def test_what_is_handed_in_stays_as_it_was(self):
        props, strengths = list(PROPS), [(1, 1), (2, 1), (3, 1)]
        Plank(10, props, bend=(1, 1)).strengthened(strengths)
        self.assertEqual((props, strengths), (PROPS, [(1, 1), (2, 1), (3, 1)]))

    def test_asked_again_the_same_is_told(self):
        plank = Plank(13, twelve_props(), bend=(1, 3))
        first = (plank.length(), plank.props(), plank.bend(), plank.count(), plank.place_of(5))
        self.assertRaises(NoRest, plank.place_of, 13)
        self.assertRaises(NoStrengths, plank.strengthened, [])
        plank.strengthened([(1, 1)] * 12)
        again = (plank.length(), plank.props(), plank.bend(), plank.count(), plank.place_of(5))
        self.assertEqual(first, again)


if __name__ == "__main__":
    unittest.main()
