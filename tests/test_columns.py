"""Points 5, 7 and 8: what boats show, which are alike, and all of them in their order."""

import copy
import unittest

from handed import HARBOUR, NAMES, NO_BOATS, NO_KINDS, NO_POINTS, column_by_steps, name_of, some_fleet
from lanternwatch.columns import all_boats, are_alike, column, seen
from lanternwatch.errors import BadBoats, BadPoint, NoKind
from lanternwatch.fleets import Fleet

POINTS = range(32)


def fleet_of(*lamps):
    """A fleet with one kind, a tug with these lamps."""
    return Fleet((("red", "green", "white"), (("tug", 3, lamps),)))


class Lamps(unittest.TestCase):
    def bearings(self, first, last):
        """The bearings at which a lamp shows, each tried."""
        fleet = fleet_of(("red", first, last))
        looks = [column(fleet, "tug", bearing) for bearing in POINTS]
        self.assertLessEqual(set(looks), {(), ("red",)})
        return [bearing for bearing in POINTS if looks[bearing]]

    def test_some_bearings(self):
        self.assertEqual(self.bearings(3, 9), [3, 4, 5, 6, 7, 8, 9])
        self.assertEqual(self.bearings(0, 2), [0, 1, 2])
        self.assertEqual(self.bearings(28, 31), [28, 29, 30, 31])

    def test_over_the_end(self):
        self.assertEqual(self.bearings(30, 1), [0, 1, 30, 31])
        self.assertEqual(self.bearings(31, 0), [0, 31])
        self.assertEqual(self.bearings(20, 10), list(range(11)) + list(range(20, 32)))

    def test_one_bearing(self):
        for point in POINTS:
            self.assertEqual(self.bearings(point, point), [point])

    def test_neighbours(self):
        for point in POINTS:
            after = (point + 1) % 32
            self.assertEqual(self.bearings(point, after), sorted([point, after]))
            # The last bearing is the one ahead of the first: all of them.
            self.assertEqual(self.bearings(after, point), list(POINTS))
            self.assertEqual(len(self.bearings(after, (point - 1) % 32)), 31)

    def test_each_lamp_at_each_bearing(self):
        for first in POINTS:
            for last in POINTS:
                bearings = [(first + step) % 32 for step in range((last - first) % 32 + 1)]
                self.assertEqual(self.bearings(first, last), sorted(bearings))


class Columns(unittest.TestCase):
    def test_the_order_is_the_lamps(self):
        lamps = (("white", 0, 20), ("red", 10, 30), ("green", 15, 5))
        fleet = fleet_of(*lamps)
        self.assertEqual(column(fleet, "tug", 0), ("white", "green"))
        self.assertEqual(column(fleet, "tug", 7), ("white",))
        self.assertEqual(column(fleet, "tug", 12), ("white", "red"))
        self.assertEqual(column(fleet, "tug", 15), ("white", "red", "green"))
        self.assertEqual(column(fleet, "tug", 31), ("green",))
        self.assertEqual(column(fleet_of(*lamps[::-1]), "tug", 15), ("green", "red", "white"))

    def test_several_lamps_of_one_colour(self):
        fleet = fleet_of(("red", 0, 9), ("white", 3, 3), ("red", 2, 5), ("red", 0, 9))
        self.assertEqual(column(fleet, "tug", 0), ("red", "red"))
        self.assertEqual(column(fleet, "tug", 2), ("red", "red", "red"))
        self.assertEqual(column(fleet, "tug", 3), ("red", "white", "red", "red"))
        self.assertEqual(column(fleet, "tug", 10), ())

    def test_six_lamps(self):
        fleet = fleet_of(*[("green", 8, 8)] * 6)
        self.assertEqual(column(fleet, "tug", 8), ("green",) * 6)
        self.assertEqual(column(fleet, "tug", 9), ())

    def test_the_kinds_of_values(self):
        for bearing in POINTS:
            for kind in ("tug", "buoy", "twin", "red"):
                for answer in (column(Fleet(HARBOUR), kind, bearing), seen(Fleet(HARBOUR), kind, 9, bearing)):
                    self.assertIs(type(answer), tuple)
                    self.assertEqual([type(colour) for colour in answer], [str] * len(answer))

    def test_many_fleets(self):
        for seed in range(60):
            plain = some_fleet(seed)
            fleet = Fleet(plain)
            for kind in fleet.kinds():
                for bearing in POINTS:
                    self.assertEqual(column(fleet, kind, bearing), column_by_steps(plain, kind, bearing))

    def test_each_course_and_side(self):
        fleet = Fleet(HARBOUR)
        for kind in fleet.kinds():
            for course in POINTS:
                for side in POINTS:
                    bearing = side - course if side >= course else side - course + 32
                    self.assertEqual(seen(fleet, kind, course, side), column(fleet, kind, bearing))

    def test_the_side_less_the_course(self):
        fleet = fleet_of(("red", 5, 5), ("white", 27, 27))
        self.assertEqual(seen(fleet, "tug", 10, 15), ("red",))
        self.assertEqual(seen(fleet, "tug", 15, 10), ("white",))
        self.assertEqual(seen(fleet, "tug", 30, 3), ("red",))
        self.assertEqual(seen(fleet, "tug", 0, 27), ("white",))
        self.assertEqual(seen(fleet, "tug", 31, 31), ())


class Refusals(unittest.TestCase):
    def setUp(self):
        self.fleet = Fleet(HARBOUR)

    def test_no_kind_comes_first(self):
        for value in NO_KINDS:
            with self.subTest(kind=name_of(value)):
                for point in (0, 31, 32, None, value):
                    with self.assertRaises(NoKind):
                        column(self.fleet, value, point)
                    for other in (0, -1, None):
                        with self.assertRaises(NoKind):
                            seen(self.fleet, value, point, other)

    def test_no_point(self):
        for value in NO_POINTS:
            with self.subTest(point=name_of(value)):
                with self.assertRaises(BadPoint):
                    column(self.fleet, "tug", value)
                for course, side in ((value, 3), (3, value), (value, value), (value, None), (None, value)):
                    with self.assertRaises(BadPoint):
                        seen(self.fleet, "tug", course, side)

    def test_the_course_ahead_of_the_side(self):
        for value in NO_POINTS:
            for course, side, called in ((value, 3, "course"), (value, value, "course"), (value, -1, "course"),
                                         (value, None, "course"), (3, value, "side")):
                with self.assertRaises(BadPoint) as caught:
                    seen(self.fleet, "tug", course, side)
                self.assertIn(called, str(caught.exception))

    def test_a_refusal_changes_nothing(self):
        before = [seen(self.fleet, kind, 3, side) for kind, side in all_boats(self.fleet)]
        handed = [3, "tug"]
        for value in (handed, None, 32):
            with self.assertRaises(NoKind):
                column(self.fleet, value, value)
            with self.assertRaises(BadPoint):
                seen(self.fleet, "tug", value, value)
            with self.assertRaises(BadBoats):
                are_alike(self.fleet, value, value)
        self.assertEqual(handed, [3, "tug"])
        self.assertEqual([seen(self.fleet, kind, 3, side) for kind, side in all_boats(self.fleet)], before)
        self.assertEqual(self.fleet.plain(), HARBOUR)


class Alike(unittest.TestCase):
    def setUp(self):
        self.fleet = Fleet(HARBOUR)

    def alike(self, one, other):
        """Whether they are alike; it is the same either way about."""
        answer = are_alike(self.fleet, one, other)
        self.assertIs(type(answer), bool)
        self.assertIs(are_alike(self.fleet, other, one), answer)
        return answer

    def test_each_with_itself(self):
        for boat in all_boats(self.fleet):
            self.assertIs(are_alike(self.fleet, boat, boat), True)
            self.assertIs(are_alike(self.fleet, boat, (boat[0], boat[1])), True)

    def test_boats_of_one_kind(self):
        for turned in range(1, 32):
            self.assertIs(self.alike(("tug", 5), ("tug", (5 + turned) % 32)), False)
            self.assertIs(self.alike(("buoy", 5), ("buoy", (5 + turned) % 32)), True)
            # A boat with two like ends is alike where it is turned half about.
            self.assertIs(self.alike(("red", 5), ("red", (5 + turned) % 32)), turned == 16)

    def test_boats_of_two_kinds(self):
        for course in POINTS:
            for other in POINTS:
                alike = self.alike(("tug", course), ("twin", other))
                self.assertIs(alike, (other - course) % 32 == 16)
                self.assertIs(self.alike(("tug", course), ("buoy", other)), False)

    def test_the_order_of_colours_tells(self):
        kinds = (("one", 0, (("red", 0, 31), ("white", 0, 31))), ("other", 0, (("white", 0, 31), ("red", 0, 31))),
                 ("third", 0, (("red", 3, 2), ("white", 9, 8))), ("fourth", 9, (("red", 0, 31),)))
        self.fleet = Fleet((("red", "white"), kinds))
        self.assertIs(self.alike(("one", 0), ("other", 0)), False)
        self.assertIs(self.alike(("one", 0), ("third", 7)), True)
        self.assertIs(self.alike(("one", 0), ("fourth", 0)), False)

    def test_one_side_tells(self):
        kinds = (("one", 0, (("red", 0, 30),)), ("other", 0, (("red", 0, 31),)))
        self.fleet = Fleet((("red",), kinds))
        self.assertIs(self.alike(("one", 9), ("other", 9)), False)
        self.assertIs(self.alike(("one", 9), ("one", 10)), False)

    def test_many_fleets(self):
        for seed in range(12):
            plain = some_fleet(seed)
            self.fleet = Fleet(plain)
            looks = {(kind, course): [column_by_steps(plain, kind, (side - course) % 32) for side in POINTS]
                     for kind in self.fleet.kinds()[:2] for course in (0, 1, 8, 16, 31)}
            for one in looks:
                for other in looks:
                    self.assertIs(self.alike(one, other), looks[one] == looks[other])

    def test_no_boats(self):
        for value in NO_BOATS:
            with self.subTest(boat=value.__class__.__name__):
                for one, other, called in ((value, ("tug", 3), "one"), (value, value, "one"),
                                           (value, None, "one"), (("tug", 3), value, "other")):
                    with self.assertRaises(BadBoats) as caught:
                        are_alike(self.fleet, one, other)
                    self.assertIn(f"the {called} boat", str(caught.exception))

    def test_boats_of_another_fleet(self):
        fleet = fleet_of(("red", 0, 0))
        self.assertIs(are_alike(fleet, ("tug", 3), ("tug", 3)), True)
        for one, other in ((("tug", 3), ("buoy", 3)), (("buoy", 3), ("tug", 3))):
            with self.assertRaises(BadBoats):
                are_alike(fleet, one, other)


class AllBoats(unittest.TestCase):
    def test_by_kinds_then_by_courses(self):
        boats = all_boats(Fleet(HARBOUR))
        self.assertIs(type(boats), list)
        self.assertEqual(len(boats), 4 * 32)
        self.assertEqual(boats[:2] + boats[31:33] + boats[-1:],
                         [("tug", 0), ("tug", 1), ("tug", 31), ("buoy", 0), ("red", 31)])
        self.assertEqual(boats, [(kind, course) for kind in ("tug", "buoy", "twin", "red") for course in POINTS])
        for boat in boats:
            self.assertEqual([type(boat)] + [type(part) for part in boat], [tuple, str, int])

    def test_one_kind_and_six(self):
        for kinds in (["z"], NAMES[::-1]):
            plain = (("red",), tuple([(kind, 3, (("red", 1, 2),)) for kind in kinds]))
            self.assertEqual(all_boats(Fleet(plain)), [(kind, course) for kind in kinds for course in POINTS])


class AskersOwn(unittest.TestCase):
    def test_lists_that_were_told_may_be_changed(self):
        fleet = Fleet(HARBOUR)
        boats = all_boats(fleet)
        expected = list(boats)
        boats.reverse()
        boats.pop()
        self.assertEqual(all_boats(fleet), expected)
        kept = all_boats(fleet)
        all_boats(fleet).clear()
        self.assertEqual(kept, expected)
        self.assertEqual(fleet.kinds(), ["tug", "buoy", "twin", "red"])

    def test_asked_again_the_same_is_told(self):
        fleet, other = Fleet(HARBOUR), Fleet(some_fleet(3))
        alike = Fleet(copy.deepcopy(HARBOUR))
        first = [seen(fleet, kind, course, 7) for kind, course in all_boats(fleet)]
        for kind, course in all_boats(other):
            seen(other, kind, course, 7)
        for again in (fleet, alike, Fleet(fleet.plain())):
            self.assertEqual([seen(again, kind, course, 7) for kind, course in all_boats(again)], first)

    def test_what_was_handed_in_stays(self):
        plain = copy.deepcopy(HARBOUR)
        fleet = Fleet(plain)
        for kind, course in all_boats(fleet):
            column(fleet, kind, course)
            are_alike(fleet, (kind, course), ("tug", 3))
        self.assertEqual(plain, HARBOUR)
        self.assertEqual(fleet.plain(), HARBOUR)

    def test_what_a_fleet_was_made_of_is_not_kept(self):
        lamps = [["red", 0, 10]]
        fleet = Fleet((["red"], [["tug", 3, lamps]]))
        lamps[0][1] = 9
        lamps.append(["red", 0, 31])
        self.assertEqual(column(fleet, "tug", 3), ("red",))
        self.assertEqual(column(fleet, "tug", 11), ())


if __name__ == "__main__":
    unittest.main()
