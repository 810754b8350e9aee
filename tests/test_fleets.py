"""Fleet, and what points 1 and 4 say of it."""

import copy
import unittest

from handed import NO_KINDS, name_of
from lanternwatch.errors import NoKind
from lanternwatch.fleets import Fleet
from lanternwatch.reading import read

TUG = (("white", 27, 5), ("white", 27, 5), ("red", 0, 10))
PILOT = (("green", 31, 30),)
PLAIN = (("red", "green", "white"), (("tug", 3, TUG), ("red", 16, PILOT), ("pilot", 0, PILOT)))


class Asking(unittest.TestCase):
    def setUp(self):
        self.fleet = Fleet(PLAIN)

    def test_plain(self):
        plain = self.fleet.plain()
        self.assertEqual(plain, PLAIN)
        self.assertIs(type(plain), tuple)
        self.assertEqual([type(part) for part in plain], [tuple, tuple])
        for row in plain[1]:
            self.assertIs(type(row), tuple)
            self.assertEqual([type(part) for part in row], [str, int, tuple])
            self.assertEqual([type(lamp) for lamp in row[2]], [tuple] * len(row[2]))

    def test_plain_of_a_text(self):
        plain, _ = read("colours a b\nkind b 1\nlamp b 2 3\nlamp a 4 5\nkind a 6\nlamp a 7 8")
        expected = (("a", "b"), (("b", 1, (("b", 2, 3), ("a", 4, 5))), ("a", 6, (("a", 7, 8),))))
        self.assertEqual(Fleet(plain).plain(), expected)

    def test_kinds(self):
        self.assertEqual(self.fleet.kinds(), ["tug", "red", "pilot"])
        self.assertIs(type(self.fleet.kinds()), list)

    def test_turn(self):
        self.assertEqual([self.fleet.turn(kind) for kind in ("tug", "red", "pilot")], [3, 16, 0])
        self.assertIs(type(self.fleet.turn("tug")), int)

    def test_lamps(self):
        self.assertEqual(self.fleet.lamps("tug"), list(TUG))
        self.assertEqual(self.fleet.lamps("red"), list(PILOT))
        self.assertEqual(self.fleet.lamps("pilot"), list(PILOT))
        self.assertIs(type(self.fleet.lamps("tug")), list)
        self.assertEqual([type(lamp) for lamp in self.fleet.lamps("tug")], [tuple] * 3)

    def test_a_name_that_was_put_together(self):
        name = "".join(["t", "u", "g"])
        self.assertEqual(self.fleet.turn(name), 3)
        self.assertEqual(self.fleet.lamps(name), list(TUG))

    def test_no_kind(self):
        for value in NO_KINDS:
            with self.subTest(kind=name_of(value)):
                with self.assertRaises(NoKind):
                    self.fleet.turn(value)
                with self.assertRaises(NoKind):
                    self.fleet.lamps(value)
        self.assertEqual(self.fleet.plain(), PLAIN)
        self.assertEqual(self.fleet.kinds(), ["tug", "red", "pilot"])

    def test_two_fleets_keep_apart(self):
        other = Fleet((("a",), (("tug", 9, (("a", 1, 2),)),)))
        self.assertEqual((other.turn("tug"), self.fleet.turn("tug")), (9, 3))
        self.assertEqual(other.kinds(), ["tug"])
        with self.assertRaises(NoKind):
            other.turn("pilot")


class AskersOwn(unittest.TestCase):
    def test_lists_that_were_told_may_be_changed(self):
        fleet = Fleet(PLAIN)
        kinds = fleet.kinds()
        kinds.reverse()
        kinds.append("buoy")
        lamps = fleet.lamps("tug")
        lamps[0] = ("red", 1, 2)
        lamps.clear()
        self.assertEqual(fleet.kinds(), ["tug", "red", "pilot"])
        self.assertEqual(fleet.lamps("tug"), list(TUG))
        self.assertEqual(fleet.plain(), PLAIN)
        with self.assertRaises(NoKind):
            fleet.turn("buoy")

    def test_what_is_asked_later_changes_nothing_told(self):
        fleet = Fleet(PLAIN)
        kinds, lamps, plain = fleet.kinds(), fleet.lamps("red"), fleet.plain()
        fleet.kinds().clear()
        fleet.lamps("red").clear()
        fleet.lamps("tug")
        fleet.turn("tug")
        self.assertEqual((kinds, lamps, plain), (["tug", "red", "pilot"], list(PILOT), PLAIN))

    def test_asked_again_the_same_is_told(self):
        fleet = Fleet(PLAIN)
        for asked in (fleet, fleet, Fleet(PLAIN), Fleet(copy.deepcopy(PLAIN)), Fleet(fleet.plain())):
            self.assertEqual(asked.plain(), PLAIN)
            self.assertEqual(asked.kinds(), ["tug", "red", "pilot"])
            self.assertEqual(asked.lamps("tug"), list(TUG))
            self.assertEqual(asked.turn("red"), 16)

    def test_what_was_handed_in_is_not_changed(self):
        handed = copy.deepcopy(PLAIN)
        fleet = Fleet(handed)
        fleet.kinds().clear()
        fleet.lamps("tug").clear()
        with self.assertRaises(NoKind):
            fleet.turn("buoy")
        self.assertEqual(handed, PLAIN)

    def test_what_was_handed_in_is_not_kept(self):
        lamps = [["red", 0, 10]]
        kinds = [["tug", 3, lamps]]
        colours = ["red"]
        fleet = Fleet((colours, kinds))
        lamps[0][1] = 9
        lamps.append(["red", 1, 2])
        kinds[0][1] = 8
        kinds.append(["buoy", 0, lamps])
        colours.clear()
        self.assertEqual(fleet.plain(), (("red",), (("tug", 3, (("red", 0, 10),)),)))


if __name__ == "__main__":
    unittest.main()
