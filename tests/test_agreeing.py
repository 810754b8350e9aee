"""Point 8: which boats agree with the sights of a moment, and with all."""

import unittest

from handed import HARBOUR, column_by_steps, some_fleet, some_sights
from lanternwatch.columns import all_boats, seen
from lanternwatch.errors import BadMoment
from lanternwatch.fleets import Fleet
from lanternwatch.watches import Watch

EVERY = [(kind, course) for kind in ("tug", "buoy", "twin", "red") for course in range(32)]


def watch_of(*sights):
    """A watch of the harbour with these sights."""
    watch = Watch(Fleet(HARBOUR))
    for sight in sights:
        watch.put(sight)
    return watch


def agreeing_by_steps(plain, sights):
    """The boats that agree with these sights, each told by its own."""
    return [
        (kind, course) for kind, _, _ in plain[1] for course in range(32)
        if all([column_by_steps(plain, kind, (side - course) % 32) == colours for _, side, colours in sights])
    ]


class Agreeing(unittest.TestCase):
    def test_no_sight(self):
        watch = watch_of()
        for moment in range(100):
            self.assertEqual(watch.agreeing(moment), EVERY)
        self.assertEqual(watch.steady(), EVERY)
        self.assertIs(type(watch.agreeing(0)), list)
        self.assertIs(type(watch.steady()), list)

    def test_one_sight(self):
        watch = watch_of((4, 10, ("white", "red", "white")))
        # A tug shows that at the bearings 0 and 1, a twin at 16 and 17.
        expected = [("tug", 9), ("tug", 10), ("twin", 25), ("twin", 26)]
        self.assertEqual(watch.agreeing(4), expected)
        self.assertEqual(watch.steady(), expected)

    def test_a_moment_without_a_sight(self):
        watch = watch_of((4, 10, ("white", "red", "white")))
        for moment in (0, 3, 5, 99):
            self.assertEqual(watch.agreeing(moment), EVERY)

    def test_several_sights_of_one_moment(self):
        watch = watch_of((4, 10, ("white", "red", "white")), (4, 12, ("white", "red")))
        self.assertEqual(watch.agreeing(4), [("tug", 9), ("tug", 10), ("twin", 25), ("twin", 26)])
        watch.put((4, 11, ("white", "red")))
        self.assertEqual(watch.agreeing(4), [("tug", 9), ("twin", 25)])
        self.assertEqual(watch.steady(), [("tug", 9), ("twin", 25)])

    def test_several_moments(self):
        watch = watch_of((0, 10, ("white", "red", "white")), (99, 10, ("green",)), (5, 0, ()))
        self.assertEqual(watch.agreeing(0), [("tug", 9), ("tug", 10), ("twin", 25), ("twin", 26)])
        self.assertEqual(watch.agreeing(99), [("buoy", course) for course in range(32)])
        self.assertEqual(
            watch.agreeing(5),
            [("tug", course) for course in range(9, 21)]
            + [("twin", course) for course in list(range(5)) + list(range(25, 32))]
            + [("red", course) for course in list(range(2, 16)) + list(range(18, 32))],
        )
        self.assertEqual(watch.agreeing(1), EVERY)
        self.assertEqual(watch.steady(), [])

    def test_steady_takes_all_moments(self):
        watch = watch_of((9, 10, ("white", "red", "white")), (3, 11, ("white", "red")))
        self.assertEqual(watch.agreeing(9), [("tug", 9), ("tug", 10), ("twin", 25), ("twin", 26)])
        self.assertEqual(watch.agreeing(3), [("tug", course) for course in range(4, 10)]
                         + [("twin", course) for course in range(20, 26)])
        self.assertEqual(watch.steady(), [("tug", 9), ("twin", 25)])

    def test_no_boat(self):
        watch = watch_of((4, 10, ("red", "white")))
        self.assertEqual(watch.agreeing(4), [])
        self.assertEqual(watch.steady(), [])
        self.assertEqual(watch.agreeing(5), EVERY)
        watch = watch_of((4, 10, ("green",)), (4, 10, ("red",)))
        self.assertEqual(watch.agreeing(4), [])

    def test_a_dark_column(self):
        watch = watch_of((4, 10, ()))
        dark = [boat for boat in EVERY if seen(Fleet(HARBOUR), *boat, 10) == ()]
        self.assertEqual(watch.agreeing(4), dark)
        self.assertEqual(len(dark), 12 + 12 + 28)

    def test_fewer_colours_do_not_agree(self):
        self.assertEqual(watch_of((1, 0, ("white", "white", "white"))).steady(), [])
        self.assertEqual(watch_of((1, 0, ("green", "green"))).steady(), [])
        for kind, course in watch_of((1, 0, ("white",))).steady():
            self.assertEqual(seen(Fleet(HARBOUR), kind, course, 0), ("white",))

    def test_a_sight_told_twice(self):
        sight = (4, 10, ("white", "red", "white"))
        once, twice = watch_of(sight), watch_of(sight, sight)
        self.assertEqual(twice.sights(), [sight, sight])
        self.assertEqual(twice.agreeing(4), once.agreeing(4))
        self.assertEqual(twice.steady(), once.steady())

    def test_the_last_moment(self):
        watch = watch_of((99, 3, ("green",)), (0, 3, ()))
        self.assertEqual(watch.agreeing(99), [("buoy", course) for course in range(32)])
        for moment in (-1, 100):
            with self.assertRaises(BadMoment):
                watch.agreeing(moment)

    def test_many_watches(self):
        for seed in range(40):
            plain = some_fleet(seed)
            fleet = Fleet(plain)
            boats = all_boats(fleet)
            watch = Watch(fleet)
            # Sights of one boat, so that some boats agree; and some sights of none.
            kind, course = boats[seed * 5 % len(boats)]
            sights = [(moment % 4, side, seen(fleet, kind, course, side))
                      for moment, side, _ in some_sights(seed, plain[0], seed % 7)]
            sights += some_sights(seed, plain[0], seed % 3)
            for sight in sights:
                watch.put(sight)
            self.assertEqual(watch.steady(), agreeing_by_steps(plain, sights))
            for moment in (0, 1, 2, 3, 50):
                ones = [sight for sight in sights if sight[0] == moment]
                self.assertEqual(watch.agreeing(moment), agreeing_by_steps(plain, ones))

    def test_two_hundred_sights_of_one_boat(self):
        fleet = Fleet(HARBOUR)
        sights = [(at % 100, at % 32, seen(fleet, "tug", 9, at % 32)) for at in range(200)]
        self.assertEqual(watch_of(*sights).steady(), [("tug", 9), ("twin", 25)])


class AskersOwn(unittest.TestCase):
    def test_lists_that_were_told_may_be_changed(self):
        watch = watch_of((4, 10, ("white", "red", "white")))
        expected = [("tug", 9), ("tug", 10), ("twin", 25), ("twin", 26)]
        for ask in (lambda: watch.agreeing(4), watch.steady):
            told = ask()
            told.reverse()
            told.pop()
            self.assertEqual(ask(), expected)
        watch.agreeing(7).clear()
        self.assertEqual(watch.agreeing(7), EVERY)

    def test_what_is_done_later_changes_nothing_told(self):
        watch = watch_of()
        steady, agreeing = watch.steady(), watch.agreeing(4)
        watch.put((4, 10, ("green",)))
        watch.steady().clear()
        self.assertEqual((steady, agreeing), (EVERY, EVERY))
        self.assertEqual(watch.steady(), [("buoy", course) for course in range(32)])

    def test_asked_again_the_same_is_told(self):
        watch, other = watch_of((4, 10, ("red",))), watch_of((4, 10, ()))
        first = (watch.agreeing(4), watch.steady(), watch.agreeing(5))
        other.agreeing(4)
        other.steady()
        self.assertEqual((watch.agreeing(4), watch.steady(), watch.agreeing(5)), first)
        alike = watch_of((4, 10, ("red",)))
        self.assertEqual((alike.agreeing(4), alike.steady(), alike.agreeing(5)), first)

    def test_a_refusal_changes_nothing(self):
        watch = watch_of((4, 10, ("red",)))
        before = (watch.agreeing(4), watch.steady(), watch.sights(), watch.last_moment())
        for value in (None, True, "4", [4], 100):
            with self.assertRaises(BadMoment):
                watch.agreeing(value)
        self.assertEqual((watch.agreeing(4), watch.steady(), watch.sights(), watch.last_moment()), before)


if __name__ == "__main__":
    unittest.main()
