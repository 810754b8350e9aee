"""Point 9: how many lamps a boat hides at a sight."""

import copy
import itertools
import unittest

from handed import (HARBOUR, NAMES, NO_KINDS, NO_POINTS, NO_SIGHTS, column_by_steps, name_of, some_fleet,
                    some_sights)
from lanternwatch.columns import seen
from lanternwatch.errors import BadPoint, BadSight, NoKind
from lanternwatch.fleets import Fleet
from lanternwatch.histories import hides


def fleet_of(*colours):
    """A fleet with one kind, a tug that shows these colours to all sides."""
    return Fleet((("red", "green", "white"), (("tug", 3, tuple([(colour, 0, 31) for colour in colours])),)))


def hides_by_trying(whole, some):
    """How many colours are left out: each choice of those that are kept is tried."""
    if some in list(itertools.combinations(whole, len(some))):
        return len(whole) - len(some)
    return None


class Hiding(unittest.TestCase):
    def hidden(self, whole, some):
        """How many a tug that shows the whole column hides where some of it is seen."""
        answer = hides(fleet_of(*whole), "tug", 9, (4, 20, tuple(some)))
        self.assertEqual(answer, hides_by_trying(tuple(whole), tuple(some)))
        self.assertIn(answer.__class__, (int, None.__class__))
        return answer

    def test_the_column_itself(self):
        self.assertEqual(self.hidden(["red"], ["red"]), 0)
        self.assertEqual(self.hidden(["red", "green", "white"], ["red", "green", "white"]), 0)
        self.assertEqual(self.hidden(["red"] * 6, ["red"] * 6), 0)

    def test_one_left_out(self):
        whole = ["red", "green", "white", "green"]
        for at in range(4):
            self.assertEqual(self.hidden(whole, whole[:at] + whole[at + 1:]), 1)

    def test_several_left_out(self):
        self.assertEqual(self.hidden(["red", "green", "white"], ["green"]), 2)
        self.assertEqual(self.hidden(["red", "green", "white"], ["red", "white"]), 1)
        self.assertEqual(self.hidden(["red", "green", "white", "red", "green", "white"], ["green", "green"]), 4)

    def test_all_left_out(self):
        for many in range(1, 7):
            self.assertEqual(self.hidden(["red"] * many, []), many)

    def test_a_colour_that_stands_several_times(self):
        self.assertEqual(self.hidden(["red", "red", "red"], ["red"]), 2)
        self.assertEqual(self.hidden(["red", "red", "red"], ["red", "red"]), 1)
        self.assertEqual(self.hidden(["red", "green", "red"], ["red", "red"]), 1)
        self.assertEqual(self.hidden(["red", "green", "red", "white"], ["red", "white"]), 2)
        self.assertEqual(self.hidden(["red", "green", "red"], ["green", "red"]), 1)

    def test_a_colour_more(self):
        self.assertIsNone(self.hidden(["red"], ["red", "red"]))
        self.assertIsNone(self.hidden(["red", "green"], ["red", "green", "green"]))
        self.assertIsNone(self.hidden(["red", "green"], ["red", "red", "green"]))
        self.assertIsNone(self.hidden(["red", "red"], ["red", "red", "red", "red", "red", "red"]))

    def test_another_colour(self):
        self.assertIsNone(self.hidden(["red"], ["green"]))
        self.assertIsNone(self.hidden(["red", "green", "red"], ["red", "white"]))
        self.assertIsNone(self.hidden(["red", "green", "red"], ["white"]))

    def test_another_order(self):
        self.assertIsNone(self.hidden(["red", "green"], ["green", "red"]))
        self.assertIsNone(self.hidden(["red", "green", "white"], ["white", "green"]))
        self.assertIsNone(self.hidden(["red", "red", "green"], ["red", "green", "red"]))

    def test_no_lamp_shown(self):
        fleet = Fleet((("red", "green"), (("tug", 3, (("red", 5, 5),)),)))
        self.assertEqual(hides(fleet, "tug", 9, (4, 20, ())), 0)
        self.assertIsNone(hides(fleet, "tug", 9, (4, 20, ("red",))))
        self.assertEqual(hides(fleet, "tug", 9, (4, 14, ())), 1)
        self.assertEqual(hides(fleet, "tug", 9, (4, 14, ("red",))), 0)

    def test_all_short_columns(self):
        columns = [column for many in range(5) for column in itertools.product(("red", "white"), repeat=many)]
        for whole in columns:
            for some in columns:
                if whole:
                    self.hidden(whole, some)

    def test_each_course_and_side(self):
        for plain in (HARBOUR, some_fleet(4)):
            fleet = Fleet(plain)
            sights = some_sights(3, plain[0], 20) + [(0, 31, ()), (99, 0, (plain[0][0],))]
            for kind in fleet.kinds():
                for course in range(32):
                    for sight in sights:
                        whole = column_by_steps(plain, kind, (sight[1] - course) % 32)
                        self.assertEqual(hides(fleet, kind, course, sight), hides_by_trying(whole, sight[2]))

    def test_the_moment_tells_nothing(self):
        fleet = fleet_of("red", "green")
        self.assertEqual([hides(fleet, "tug", 0, (moment, 7, ("green",))) for moment in range(100)], [1] * 100)


class Refusals(unittest.TestCase):
    def setUp(self):
        self.fleet = Fleet(HARBOUR)

    def refused(self, error, *handed):
        with self.assertRaises(error) as caught:
            hides(self.fleet, *handed)
        self.assertIs(type(caught.exception), error)

    def test_no_kind_comes_first(self):
        for value in NO_KINDS:
            with self.subTest(kind=name_of(value)):
                self.refused(NoKind, value, 3, (1, 2, ("red",)))
                self.refused(NoKind, value, 32, (1, 2, ("red",)))
                self.refused(NoKind, value, None, None)
                self.refused(NoKind, value, value, value)

    def test_then_no_point(self):
        for value in NO_POINTS:
            with self.subTest(point=name_of(value)):
                self.refused(BadPoint, "tug", value, (1, 2, ("red",)))
                self.refused(BadPoint, "tug", value, None)
                self.refused(BadPoint, "tug", value, (1, 32, ()))

    def test_then_no_sight(self):
        for value in NO_SIGHTS:
            with self.subTest(sight=value.__class__.__name__):
                for kind in ("tug", "red"):
                    self.refused(BadSight, kind, 0, value)
                self.refused(BadSight, "buoy", 31, value)

    def test_colours_of_this_fleet(self):
        for many in range(1, 7):
            self.fleet = Fleet((tuple(NAMES[:many]), (("tug", 3, (("a", 0, 31),)),)))
            for at, colour in enumerate(NAMES):
                if at < many:
                    self.assertEqual(hides(self.fleet, "tug", 3, (1, 2, (colour,))), None if at else 0)
                else:
                    self.refused(BadSight, "tug", 3, (1, 2, (colour,)))
            self.refused(BadSight, "tug", 3, (1, 2, ("tug",)))

    def test_a_refusal_changes_nothing(self):
        sight = [1, 2, ["red"]]
        before = [hides(self.fleet, "tug", course, (1, 2, ("red",))) for course in range(32)]
        self.refused(BadSight, "tug", 3, sight)
        self.refused(BadPoint, "tug", sight, sight)
        self.refused(NoKind, sight, sight, sight)
        self.assertEqual(sight, [1, 2, ["red"]])
        self.assertEqual([hides(self.fleet, "tug", course, (1, 2, ("red",))) for course in range(32)], before)
        self.assertEqual(self.fleet.plain(), HARBOUR)


class AskersOwn(unittest.TestCase):
    def test_asked_again_the_same_is_told(self):
        plain = copy.deepcopy(HARBOUR)
        fleet, other = Fleet(plain), Fleet(some_fleet(3))
        sights = [(1, side, seen(fleet, "tug", 3, side)[:1]) for side in range(32)]
        handed = copy.deepcopy(sights)
        first = [hides(fleet, kind, 5, sight) for sight in handed for kind in fleet.kinds()]
        for sight in some_sights(1, other.plain()[0], 20):
            hides(other, other.kinds()[0], 5, sight)
        for again in (fleet, Fleet(HARBOUR), Fleet(fleet.plain())):
            self.assertEqual([hides(again, kind, 5, sight) for sight in sights for kind in again.kinds()], first)
        self.assertEqual((handed, plain, fleet.plain()), (sights, HARBOUR, HARBOUR))


if __name__ == "__main__":
    unittest.main()
