"""Points 4 and 8: a watch's sights, and which of them it refuses."""

import unittest

from handed import HARBOUR, NAMES, NO_MOMENTS, NO_SIGHTS, name_of, some_fleet, some_sights, watch_of
from lanternwatch.errors import BadMoment, BadSight, Full
from lanternwatch.fleets import Fleet
from lanternwatch.watches import Watch


class Sights(unittest.TestCase):
    def test_no_sight(self):
        watch = Watch(Fleet(HARBOUR))
        self.assertEqual(watch.sights(), [])
        self.assertIs(type(watch.sights()), list)
        self.assertIsNone(watch.last_moment())

    def test_one(self):
        watch = Watch(Fleet(HARBOUR))
        self.assertIsNone(watch.put((4, 31, ("white", "red"))))
        self.assertEqual(watch.sights(), [(4, 31, ("white", "red"))])
        self.assertEqual(watch.last_moment(), 4)

    def test_moment_0(self):
        watch = watch_of([(0, 0, ())])
        self.assertEqual(watch.sights(), [(0, 0, ())])
        self.assertEqual(watch.last_moment(), 0)
        self.assertIs(type(watch.last_moment()), int)

    def test_in_the_order_in_which_they_came(self):
        sights = [(9, 1, ("red",)), (2, 30, ()), (9, 1, ("red",)), (99, 0, ("white",)), (0, 31, ("green",)),
                  (9, 0, ())]
        watch = Watch(Fleet(HARBOUR))
        for at, sight in enumerate(sights):
            self.assertIsNone(watch.put(sight))
            self.assertEqual(watch.sights(), sights[:at + 1])
            self.assertEqual(watch.last_moment(), max([moment for moment, _, _ in sights[:at + 1]]))

    def test_two_hundred(self):
        sights = some_sights(5, HARBOUR[0], 200)
        watch = watch_of(sights)
        self.assertEqual(watch.sights(), sights)
        self.assertEqual(watch.last_moment(), max([moment for moment, _, _ in sights]))

    def test_each_moment_side_and_column(self):
        for number in range(100):
            sight = (number, number % 32, ("red", "white", "white", "green", "red", "red")[:number % 7])
            watch = watch_of([sight])
            self.assertEqual(watch.sights(), [sight])
            self.assertEqual(watch.last_moment(), number)

    def test_a_column_that_no_boat_shows(self):
        sight = (1, 2, ("green",) * 6)
        self.assertEqual(watch_of([sight]).sights(), [sight])

    def test_the_kinds_of_values(self):
        for sight in watch_of(some_sights(2, HARBOUR[0], 50)).sights():
            self.assertEqual([type(sight)] + [type(part) for part in sight], [tuple, int, int, tuple])
            self.assertEqual([type(colour) for colour in sight[2]], [str] * len(sight[2]))

    def test_the_fleet(self):
        fleet = Fleet(HARBOUR)
        watch = Watch(fleet)
        self.assertIs(type(watch.fleet()), Fleet)
        self.assertEqual(watch.fleet().plain(), HARBOUR)
        watch.put((1, 2, ("red",)))
        self.assertEqual(watch.fleet().plain(), HARBOUR)
        self.assertEqual(watch.fleet().kinds(), ["tug", "buoy", "twin", "red"])

    def test_two_watches_by_turns(self):
        fleet = Fleet(HARBOUR)
        one, other = Watch(fleet), Watch(fleet)
        sights = some_sights(8, HARBOUR[0], 30)
        for at, sight in enumerate(sights):
            (one, other)[at % 2].put(sight)
            self.assertEqual(one.sights(), sights[:at + 1][::2])
            self.assertEqual(other.sights(), sights[:at + 1][1::2])
        self.assertEqual(one.last_moment(), max([moment for moment, _, _ in sights[::2]]))
        self.assertEqual(other.last_moment(), max([moment for moment, _, _ in sights[1::2]]))

    def test_watches_of_two_fleets(self):
        one, other = Watch(Fleet(HARBOUR)), Watch(Fleet(some_fleet(1)))
        one.put((1, 2, ("red",)))
        with self.assertRaises(BadSight):
            other.put((1, 2, ("red",)))
        other.put((3, 4, ("a",)))
        with self.assertRaises(BadSight):
            one.put((3, 4, ("a",)))
        self.assertEqual((one.sights(), other.sights()), ([(1, 2, ("red",))], [(3, 4, ("a",))]))


class Refusals(unittest.TestCase):
    def refused(self, watch, value, error):
        """The value is refused, and nothing changes by that."""
        before = (watch.sights(), watch.last_moment(), watch.steady(), watch.fleet().plain())
        with self.subTest(sight=value.__class__.__name__):
            with self.assertRaises(error) as caught:
                watch.put(value)
            self.assertIs(type(caught.exception), error)
        self.assertEqual((watch.sights(), watch.last_moment(), watch.steady(), watch.fleet().plain()), before)

    def test_no_sight(self):
        for sights in ([], [(7, 8, ("white",)), (3, 9, ())]):
            watch = watch_of(sights)
            for value in NO_SIGHTS:
                self.refused(watch, value, BadSight)
            watch.put((1, 2, ("red",)))
            self.assertEqual(watch.sights(), sights + [(1, 2, ("red",))])

    def test_colours_of_this_fleet(self):
        for many in range(1, 7):
            watch = watch_of([], (tuple(NAMES[:many]), (("tug", 3, (("a", 0, 31),)),)))
            for at, colour in enumerate(NAMES):
                if at < many:
                    watch.put((1, 2, (colour,)))
                else:
                    self.refused(watch, (1, 2, (colour,)), BadSight)
            # A kind's name is no colour's.
            self.refused(watch, (1, 2, ("tug",)), BadSight)
            self.assertEqual(len(watch.sights()), many)

    def test_a_colour_that_no_lamp_has(self):
        watch = watch_of([(1, 2, ("b",))], (("a", "b"), (("tug", 3, (("a", 0, 31),)),)))
        self.assertEqual(watch.sights(), [(1, 2, ("b",))])
        self.assertEqual(watch.steady(), [])

    def test_full(self):
        sights = some_sights(6, HARBOUR[0], 200)
        watch = watch_of(sights[:199])
        watch.put(sights[199])
        for sight in ((1, 2, ("red",)), sights[0], (99, 31, ()), (0, 0, ())):
            self.refused(watch, sight, Full)
        self.assertEqual(watch.sights(), sights)

    def test_no_sight_comes_ahead_of_full(self):
        watch = watch_of(some_sights(6, HARBOUR[0], 200))
        for value in NO_SIGHTS:
            self.refused(watch, value, BadSight)
        self.refused(watch, (1, 2, ("red",)), Full)

    def test_refusals_are_not_counted(self):
        watch = watch_of([])
        for at in range(200):
            with self.assertRaises(BadSight):
                watch.put((at, 32, ()))
            watch.put((at % 100, 31, ()))
        self.refused(watch, (1, 2, ()), Full)
        self.assertEqual(len(watch.sights()), 200)

    def test_no_moment(self):
        for sights in ([], [(1, 2, ("red",))]):
            watch = watch_of(sights)
            for value in NO_MOMENTS:
                with self.subTest(moment=name_of(value)):
                    with self.assertRaises(BadMoment):
                        watch.agreeing(value)
            self.assertEqual(watch.sights(), sights)


class AskersOwn(unittest.TestCase):
    def test_lists_that_were_told_may_be_changed(self):
        sights = some_sights(4, HARBOUR[0], 9)
        watch = watch_of(sights)
        told = watch.sights()
        told.reverse()
        told.append((200, 200, None))
        del told[0]
        self.assertEqual(watch.sights(), sights)
        self.assertEqual(watch.last_moment(), max([moment for moment, _, _ in sights]))

    def test_what_is_done_later_changes_nothing_told(self):
        watch = watch_of([(1, 2, ("red",))])
        told = watch.sights()
        watch.put((3, 4, ()))
        watch.sights().clear()
        self.assertEqual(told, [(1, 2, ("red",))])
        self.assertEqual(watch.sights(), [(1, 2, ("red",)), (3, 4, ())])

    def test_what_was_handed_in_is_not_kept(self):
        sights = some_sights(4, HARBOUR[0], 9)
        handed = list(sights)
        watch = watch_of(handed)
        handed.clear()
        self.assertEqual(watch.sights(), sights)
        # A list is no sight: were it taken, it could be changed later.
        listed = [1, 2, ["red"]]
        with self.assertRaises(BadSight):
            watch.put(listed)
        self.assertEqual(listed, [1, 2, ["red"]])
        self.assertEqual(watch.sights(), sights)


if __name__ == "__main__":
    unittest.main()
