"""Point 6: a kind's sectors."""

import unittest

from handed import HARBOUR, NO_KINDS, name_of, some_fleet
from lanternwatch.columns import column, sectors
from lanternwatch.errors import NoKind
from lanternwatch.fleets import Fleet

RED = ("red",)
WHITE = ("white",)


def sectors_of(*lamps):
    """The sectors of a tug with these lamps."""
    return sectors(Fleet((("red", "green", "white"), (("tug", 3, lamps),))), "tug")


def bearings_of(sector):
    """The bearings of a sector, going up from its first to its last."""
    first, last, _ = sector
    assert first in range(32) and last in range(32), sector
    return [(first + step) % 32 for step in range((last - first) % 32 + 1)]


class Sectors(unittest.TestCase):
    def test_the_same_all_round(self):
        for first in range(32):
            self.assertEqual(sectors_of(("red", first, (first - 1) % 32)), [(0, 31, RED)])
        # One lamp begins where the other ends.
        self.assertEqual(sectors_of(("red", 5, 20), ("red", 21, 4)), [(0, 31, RED)])
        self.assertEqual(sectors_of(("red", 0, 15), ("red", 16, 31)), [(0, 31, RED)])
        self.assertEqual(sectors_of(("red", 0, 31), ("red", 9, 8)), [(0, 31, RED + RED)])

    def test_a_sector_from_bearing_0(self):
        self.assertEqual(sectors_of(("red", 0, 9)), [(0, 9, RED), (10, 31, ())])
        self.assertEqual(sectors_of(("red", 0, 0)), [(0, 0, RED), (1, 31, ())])
        self.assertEqual(sectors_of(("red", 20, 31)), [(0, 19, ()), (20, 31, RED)])
        self.assertEqual(sectors_of(("red", 31, 31)), [(0, 30, ()), (31, 31, RED)])
        self.assertEqual(sectors_of(("red", 0, 30)), [(0, 30, RED), (31, 31, ())])

    def test_like_columns_over_bearing_0_are_one_sector(self):
        self.assertEqual(sectors_of(("red", 31, 0)), [(31, 0, RED), (1, 30, ())])
        self.assertEqual(sectors_of(("red", 20, 3)), [(20, 3, RED), (4, 19, ())])
        self.assertEqual(sectors_of(("red", 3, 20)), [(21, 2, ()), (3, 20, RED)])
        self.assertEqual(sectors_of(("red", 0, 3), ("red", 28, 31)), [(28, 3, RED), (4, 27, ())])
        self.assertEqual(sectors_of(("red", 1, 31)), [(0, 0, ()), (1, 31, RED)])

    def test_like_columns_apart_stay_apart(self):
        self.assertEqual(
            sectors_of(("red", 2, 4), ("red", 10, 12), ("white", 20, 20)),
            [(21, 1, ()), (2, 4, RED), (5, 9, ()), (10, 12, RED), (13, 19, ()), (20, 20, WHITE)],
        )
        self.assertEqual(
            sectors_of(("red", 0, 0), ("red", 2, 2)), [(0, 0, RED), (1, 1, ()), (2, 2, RED), (3, 31, ())]
        )

    def test_one_column_by_unlike_lamps(self):
        self.assertEqual(sectors_of(("red", 3, 7), ("red", 8, 12)), [(13, 2, ()), (3, 12, RED)])
        self.assertEqual(
            sectors_of(("red", 3, 8), ("red", 8, 12)),
            [(13, 2, ()), (3, 7, RED), (8, 8, RED + RED), (9, 12, RED)],
        )

    def test_the_order_of_colours_parts(self):
        self.assertEqual(
            sectors_of(("red", 0, 15), ("white", 0, 31), ("red", 16, 31)),
            [(0, 15, RED + WHITE), (16, 31, WHITE + RED)],
        )

    def test_sectors_of_one_bearing(self):
        lamps = [("red", 0, 0), ("white", 1, 1), ("green", 2, 2), ("red", 3, 3), ("white", 31, 31)]
        self.assertEqual(
            sectors_of(*lamps),
            [(0, 0, RED), (1, 1, WHITE), (2, 2, ("green",)), (3, 3, RED), (4, 30, ()), (31, 31, WHITE)],
        )

    def test_kinds_of_one_fleet(self):
        fleet = Fleet(HARBOUR)
        self.assertEqual(sectors(fleet, "buoy"), [(0, 31, ("green",))])
        self.assertEqual(sectors(fleet, "red"), [(31, 0, RED), (1, 14, ()), (15, 16, RED), (17, 30, ())])
        self.assertEqual(
            sectors(fleet, "tug"),
            [(0, 1, ("white", "red", "white")), (2, 7, ("white", "red")), (8, 11, RED), (12, 23, ()),
             (24, 29, WHITE), (30, 31, ("white", "white"))],
        )

    def test_each_bearing_in_just_one(self):
        for seed in range(150):
            fleet = Fleet(some_fleet(seed))
            for kind in fleet.kinds():
                self.well_made(fleet, kind, sectors(fleet, kind))

    def well_made(self, fleet, kind, told):
        self.assertIs(type(told), list)
        round_about = [bearing for sector in told for bearing in bearings_of(sector)]
        self.assertEqual(sorted(round_about), list(range(32)))
        self.assertIn(0, bearings_of(told[0]))
        for at, sector in enumerate(told):
            self.assertIs(type(sector), tuple)
            self.assertEqual([type(part) for part in sector], [int, int, tuple])
            for bearing in bearings_of(sector):
                self.assertEqual(column(fleet, kind, bearing), sector[2])
            following = told[(at + 1) % len(told)]
            if len(told) == 1:
                self.assertEqual(sector[:2], (0, 31))
            else:
                self.assertEqual(following[0], (sector[1] + 1) % 32)
                self.assertNotEqual(following[2], sector[2])

    def test_no_kind(self):
        fleet = Fleet(HARBOUR)
        for value in NO_KINDS:
            with self.subTest(kind=name_of(value)):
                with self.assertRaises(NoKind):
                    sectors(fleet, value)

    def test_the_list_is_the_askers_own(self):
        fleet = Fleet(HARBOUR)
        told = sectors(fleet, "tug")
        kept = list(told)
        sectors(fleet, "tug").clear()
        sectors(fleet, "buoy")
        self.assertEqual(told, kept)
        told.reverse()
        told.append(told.pop(0))
        self.assertEqual(sectors(fleet, "tug"), kept)
        self.assertEqual(sectors(Fleet(HARBOUR), "tug"), kept)
        self.assertEqual(fleet.plain(), HARBOUR)


if __name__ == "__main__":
    unittest.main()
