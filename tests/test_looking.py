"""Point 10: boats parted by a look, and the plans that tell their kinds."""

import copy
import random
import unittest

from handed import (HARBOUR, NAMES, NO_LISTS, NO_MANY, NO_POINTS, boats_of, column_by_steps, parts_by_steps,
                    points_fleet, some_fleet, told_surely)
from lanternwatch.columns import all_boats, are_alike
from lanternwatch.errors import BadBoats, BadMany, BadPoint
from lanternwatch.fleets import Fleet
from lanternwatch.looking import best_plan, looks_of, parted, told_by

POINTS = range(32)
# Boats that each show a lamp to one side alone: a look tells one of them.
AHEAD = points_fleet("a", "bb", "ccc")


class Plans(unittest.TestCase):
    def checked(self, plain, boats, plan):
        """How many looks a plan takes, which is one for these boats, throughout."""
        self.assertIs(type(plan), tuple)
        if plan[0] == "kind":
            self.assertEqual([type(part) for part in plan], [str, str])
            self.assertEqual({kind for kind, _ in boats}, {plan[1]})
            return 0
        self.assertEqual([type(part) for part in plan], [str, int, tuple])
        word, side, branches = plan
        self.assertEqual(word, "look")
        self.assertIn(side, POINTS)
        parts = parts_by_steps(plain, boats, side)
        self.assertEqual([branch[0] for branch in branches], sorted(parts))
        looks = []
        for branch in branches:
            self.assertEqual([type(branch), type(branch[0]), len(branch)], [tuple, tuple, 2])
            looks.append(self.checked(plain, parts[branch[0]], branch[1]))
        return 1 + max(looks)

    def planned(self, plain, boats):
        """How many looks a best plan takes, told with each number of looks that are let; None without one."""
        fleet = Fleet(plain)
        plans = [best_plan(fleet, list(boats), most) for most in range(4)]
        there = [most for most in range(4) if plans[most] is not None]
        if not there:
            return None
        looks = self.checked(plain, boats, plans[3])
        self.assertEqual(there, list(range(looks, 4)))
        self.assertEqual(looks_of(plans[3]), looks)
        self.assertEqual([plans[most] for most in there], [plans[3]] * len(there))
        for boat in boats:
            self.assertEqual(told_by(fleet, plans[3], boat), boat[0])
        return looks


class BestPlans(Plans):
    def test_one_boat(self):
        for boat in (("tug", 0), ("buoy", 31), ("red", 7)):
            self.assertEqual(self.planned(HARBOUR, [boat]), 0)
            for most in range(4):
                self.assertEqual(best_plan(Fleet(HARBOUR), [boat], most), ("kind", boat[0]))

    def test_boats_of_one_kind(self):
        boats = [("tug", course) for course in POINTS]
        for most in range(4):
            self.assertEqual(best_plan(Fleet(HARBOUR), boats, most), ("kind", "tug"))
        self.assertEqual(self.planned(HARBOUR, boats), 0)
        self.assertEqual(self.planned(HARBOUR, [("buoy", 3), ("buoy", 4)]), 0)

    def test_one_look(self):
        self.assertEqual(self.planned(HARBOUR, [("tug", 3), ("buoy", 3)]), 1)
        self.assertEqual(self.planned(AHEAD, [("a", 0)] + [("bb", course) for course in range(1, 32)]), 1)

    def test_one_look_word_for_word(self):
        boats = [("bb", 9), ("a", 20), ("bb", 3)]
        expected = ("look", 20, (((), ("kind", "bb")), (("red",), ("kind", "a"))))
        self.assertEqual(best_plan(Fleet(AHEAD), boats, 1), expected)
        self.assertEqual(best_plan(Fleet(AHEAD), boats, 3), expected)
        self.assertIsNone(best_plan(Fleet(AHEAD), boats, 0))

    def test_each_look_tells_one_boat(self):
        for one in range(1, 6):
            for other in range(one, 6):
                boats = [("a", course) for course in range(one)] + [("bb", 31 - course) for course in range(other)]
                looks = one if one < 4 else None
                self.assertEqual(self.planned(AHEAD, boats), looks, (one, other))

    def test_three_kinds(self):
        # Each look tells one boat: all but those of the kind with most boats must be told.
        self.assertEqual(self.planned(AHEAD, [("a", 0), ("bb", 1), ("ccc", 2)]), 2)
        self.assertEqual(self.planned(AHEAD, [("a", 0), ("bb", 1), ("ccc", 2), ("ccc", 3), ("ccc", 30)]), 2)
        self.assertEqual(self.planned(AHEAD, [("a", 0), ("bb", 1), ("bb", 4), ("ccc", 2), ("ccc", 3)]), 3)
        self.assertIsNone(self.planned(AHEAD, [("a", 0), ("a", 5), ("bb", 1), ("bb", 4), ("ccc", 2), ("ccc", 3)]))

    def test_unlike_kinds_that_are_alike(self):
        for boats in ([("tug", 5), ("twin", 21)], [("a", 0), ("bb", 0)]):
            plain = HARBOUR if boats[0][0] == "tug" else AHEAD
            self.assertTrue(are_alike(Fleet(plain), *boats))
            self.assertIsNone(self.planned(plain, boats))
        self.assertIsNone(self.planned(HARBOUR, [("buoy", 3), ("twin", 21), ("red", 8), ("tug", 5)]))
        self.assertIsNone(self.planned(AHEAD, [("a", 0), ("a", 1), ("ccc", 8), ("bb", 0)]))
        self.assertEqual(self.planned(HARBOUR, [("tug", 5), ("twin", 20)]), 1)

    def test_boats_of_one_kind_that_are_alike(self):
        boats = [("buoy", course) for course in POINTS] + [("red", 1), ("red", 17)]
        self.assertTrue(are_alike(Fleet(HARBOUR), *boats[-2:]))
        self.assertEqual(self.planned(HARBOUR, boats), 1)

    def test_the_order_of_colours_tells(self):
        kinds = (("one", 0, (("red", 0, 31), ("white", 0, 31))), ("other", 0, (("white", 0, 31), ("red", 0, 31))))
        plan = best_plan(Fleet((("red", "white"), kinds)), [("one", 0), ("other", 0)], 1)
        self.assertEqual(plan[2], ((("red", "white"), ("kind", "one")), (("white", "red"), ("kind", "other"))))

    def test_branches_rise_as_tuples_of_texts(self):
        lamps = [("b", 0, 31), ("a", 0, 31), ("ab", 0, 31), ("c", 0, 31)]
        kinds = [("none", 0, (("a", 5, 5),)), ("one", 0, tuple(lamps[:1])), ("two", 0, tuple(lamps[:2])),
                 ("three", 0, tuple(lamps[2:])), ("four", 0, tuple(lamps[1:3])), ("five", 0, tuple(lamps[1:2]))]
        fleet = Fleet((("c", "b", "ab", "a"), tuple(kinds)))
        boats = [(kind, 9) for kind, _, _ in kinds]
        columns = [(), ("a",), ("a", "ab"), ("ab", "c"), ("b",), ("b", "a")]
        self.assertEqual([told for told, _ in best_plan(fleet, boats, 1)[2]], columns)
        self.assertEqual([told for told, _ in parted(fleet, boats, 3)], columns)

    def test_one_side_alone_tells(self):
        kinds = (("one", 0, (("red", 0, 30),)), ("other", 0, (("red", 0, 31),)))
        plain = (("red",), kinds)
        for course in POINTS:
            boats = [("one", course), ("other", 3)]
            self.assertEqual(best_plan(Fleet(plain), boats, 1)[1], (course + 31) % 32)
            self.assertEqual(self.planned(plain, boats), 1)


class AllSidesTried(Plans):
    def tried(self, plain, boats, most):
        """As few looks as any, where so many at the most are tried."""
        looks = self.planned(plain, boats)
        fewest = [many for many in range(most + 1) if told_surely(plain, boats, many)]
        if fewest:
            self.assertEqual(looks, fewest[0])
        else:
            self.assertTrue(looks is None or looks > most)
        return looks

    def test_boats_of_many_fleets(self):
        seen_looks = [self.tried(some_fleet(seed), boats_of(some_fleet(seed), seed, 2 + seed % 16), 2)
                      for seed in range(40)]
        self.assertLessEqual({0, 1, 2}, set(seen_looks))

    def test_boats_that_are_nearly_alike(self):
        seen_looks = []
        for seed in range(24):
            chance = random.Random(seed)
            kinds = [(kind, 3, (("a", 0, 14 + at), ("a", 8, chance.randint(8, 10))))
                     for at, kind in enumerate(NAMES[:3])]
            plain = (("a",), tuple(kinds))
            seen_looks.append(self.tried(plain, boats_of(plain, seed, 2 + seed % 8), 2))
        self.assertLessEqual({1, 2, 3}, set(seen_looks))

    def test_three_looks(self):
        for seed in range(4):
            boats = boats_of(AHEAD, seed, 6)
            self.tried(AHEAD, boats, 3)

    def test_the_harbour(self):
        for seed in range(12):
            self.tried(HARBOUR, boats_of(HARBOUR, seed, 6), 2)


class ManyBoats(Plans):
    def test_forty_boats_with_two_looks(self):
        for seed in range(30):
            plain = HARBOUR if seed % 5 == 0 else some_fleet(seed)
            boats = boats_of(plain, seed, 40)
            self.planned(plain, boats)
        boats = [("a", 0), ("a", 9)] + [("bb", course) for course in POINTS if course not in (0, 9)]
        self.assertEqual(self.planned(AHEAD, boats), 2)

    def test_sixteen_boats_with_three_looks(self):
        for seed in range(30):
            plain = HARBOUR if seed % 5 == 0 else some_fleet(seed)
            self.planned(plain, boats_of(plain, seed, 16))
        boats = [("a", course) for course in (0, 9, 31)] + [("bb", course) for course in range(10, 23)]
        self.assertEqual(self.planned(AHEAD, boats), 3)
        self.assertIsNone(self.planned(AHEAD, boats + [("a", 1)]))

    def test_all_boats(self):
        self.assertIsNone(self.planned(HARBOUR, all_boats(Fleet(HARBOUR))))
        boats = [boat for boat in all_boats(Fleet(HARBOUR)) if boat[0] != "twin"]
        self.assertIn(self.planned(HARBOUR, boats), (1, 2, 3))


class Telling(unittest.TestCase):
    PLAN = ("look", 5, (((), ("look", 6, (((), ("kind", "bb")), (("red",), ("kind", "a"))))),
                        (("red",), ("kind", "ccc"))))

    def test_looks_of(self):
        self.assertEqual(looks_of(("kind", "a")), 0)
        self.assertEqual(looks_of(self.PLAN[2][0][1]), 1)
        self.assertEqual(looks_of(self.PLAN), 2)
        self.assertIs(type(looks_of(self.PLAN)), int)
        for deep in (self.PLAN[2], self.PLAN[2][::-1]):
            self.assertEqual(looks_of(("look", 5, deep)), 2)
        longer = self.PLAN
        for looks in range(3, 40):
            longer = ("look", 0, (((), ("kind", "a")), (("red",), longer)))
            self.assertEqual(looks_of(longer), looks)

    def test_told_by(self):
        fleet = Fleet(AHEAD)
        self.assertEqual(told_by(fleet, ("kind", "a"), ("a", 3)), "a")
        self.assertEqual(told_by(fleet, self.PLAN, ("ccc", 5)), "ccc")
        self.assertEqual(told_by(fleet, self.PLAN, ("a", 6)), "a")
        for course in (0, 1, 4, 7, 31):
            self.assertEqual(told_by(fleet, self.PLAN, ("bb", course)), "bb")
        self.assertIs(type(told_by(fleet, self.PLAN, ("bb", 0))), str)

    def test_a_plan_that_is_not_the_best(self):
        fleet = Fleet(AHEAD)
        plan = ("look", 9, (((), self.PLAN), (("red",), ("kind", "a"))))
        self.assertEqual(looks_of(plan), 3)
        self.assertEqual([told_by(fleet, plan, boat) for boat in (("a", 9), ("a", 6), ("ccc", 5), ("bb", 8))],
                         ["a", "a", "ccc", "bb"])


class Parting(unittest.TestCase):
    def test_one_boat(self):
        fleet = Fleet(HARBOUR)
        self.assertEqual(parted(fleet, [("tug", 0)], 3), [(("white", "red"), [("tug", 0)])])
        self.assertEqual(parted(fleet, [("tug", 0)], 16), [((), [("tug", 0)])])

    def test_several_boats(self):
        boats = [("red", 3), ("twin", 1), ("tug", 3), ("buoy", 9), ("buoy", 2), ("tug", 30)]
        told = parted(Fleet(HARBOUR), boats, 3)
        self.assertEqual(told, [((), [("twin", 1)]), (("green",), [("buoy", 2), ("buoy", 9)]),
                                (("red",), [("red", 3)]), (("white", "red"), [("tug", 30)]),
                                (("white", "red", "white"), [("tug", 3)])])
        self.assertIs(type(told), list)
        for pair in told:
            self.assertEqual([type(pair)] + [type(part) for part in pair], [tuple, tuple, list])
            self.assertEqual({type(boat) for boat in pair[1]}, {tuple})

    def test_boats_that_are_alike(self):
        told = parted(Fleet(HARBOUR), [("twin", 21), ("tug", 5), ("buoy", 8), ("buoy", 7)], 5)
        self.assertEqual(told, [(("green",), [("buoy", 7), ("buoy", 8)]),
                                (("white", "red", "white"), [("tug", 5), ("twin", 21)])])

    def test_each_side_whatever_the_order(self):
        for seed in range(12):
            plain = HARBOUR if seed == 0 else some_fleet(seed)
            fleet = Fleet(plain)
            boats = boats_of(plain, seed, 3 + 5 * seed)
            ordered = [boat for boat in all_boats(fleet) if boat in boats]
            for side in POINTS:
                parts = parts_by_steps(plain, ordered, side)
                expected = [(told, parts[told]) for told in sorted(parts)]
                self.assertEqual(parted(fleet, boats, side), expected)
                self.assertEqual(parted(fleet, boats[::-1], side), expected)

    def test_the_kinds_order_is_the_fleets(self):
        plain = (("red",), (("z", 3, (("red", 0, 31),)), ("a", 3, (("red", 0, 31),))))
        boats = [("a", 30), ("z", 9), ("a", 4), ("z", 10)]
        self.assertEqual(parted(Fleet(plain), boats, 0), [(("red",), [("z", 9), ("z", 10), ("a", 4), ("a", 30)])])


class Refusals(unittest.TestCase):
    def setUp(self):
        self.fleet = Fleet(HARBOUR)

    def refused(self, error, ask, *handed):
        with self.assertRaises(error) as caught:
            ask(self.fleet, *handed)
        self.assertIs(type(caught.exception), error)

    def test_no_boats_come_first(self):
        for value in NO_LISTS:
            with self.subTest(boats=value.__class__.__name__):
                for other in (0, 3, 32, None):
                    self.refused(BadBoats, parted, value, other)
                    self.refused(BadBoats, best_plan, value, other)

    def test_boats_of_another_fleet(self):
        self.refused(BadBoats, parted, [("tug", 3), ("boat", 3)], 3)
        self.refused(BadBoats, best_plan, [("a", 3)], 3)
        self.fleet = Fleet(AHEAD)
        self.refused(BadBoats, best_plan, [("tug", 3)], 3)

    def test_then_no_point(self):
        for value in NO_POINTS:
            with self.subTest(side=value.__class__.__name__):
                self.refused(BadPoint, parted, [("tug", 3)], value)
                self.refused(BadPoint, parted, [("tug", 3), ("twin", 19), ("red", 1)], value)

    def test_then_no_number_of_looks(self):
        for value in NO_MANY:
            with self.subTest(most=value.__class__.__name__):
                # Neither boats of one kind nor boats without a plan are told ahead of it.
                for boats in ([("tug", 3)], [("tug", 3), ("twin", 19)], [("tug", 3), ("red", 1)]):
                    self.refused(BadMany, best_plan, boats, value)

    def test_a_refusal_changes_nothing(self):
        boats = [("tug", 3), ("red", 1), ("tug", 3)]
        before = best_plan(self.fleet, boats[:2], 2)
        self.refused(BadBoats, best_plan, boats, 2)
        self.refused(BadBoats, parted, boats, 2)
        self.refused(BadMany, best_plan, boats[:2], 4)
        self.assertEqual(boats, [("tug", 3), ("red", 1), ("tug", 3)])
        self.assertEqual(best_plan(self.fleet, boats[:2], 2), before)
        self.assertEqual(self.fleet.plain(), HARBOUR)


class AskersOwn(unittest.TestCase):
    def test_the_order_of_boats_tells_nothing(self):
        for seed in range(20):
            plain = HARBOUR if seed == 0 else some_fleet(seed)
            fleet = Fleet(plain)
            boats = boats_of(plain, seed, 14)
            expected = [best_plan(fleet, boats, most) for most in range(4)]
            for again in range(3):
                random.Random(again).shuffle(boats)
                self.assertEqual([best_plan(fleet, boats, most) for most in range(4)], expected)

    def test_asked_again_the_same_is_told(self):
        fleet = Fleet(HARBOUR)
        boats = [("tug", 3), ("red", 1), ("red", 2), ("buoy", 9), ("tug", 31)]
        plan, parts = best_plan(fleet, boats, 3), parted(fleet, boats, 3)
        other = Fleet(some_fleet(3))
        best_plan(other, all_boats(other)[::5], 3)
        parted(other, all_boats(other)[::5], 3)
        best_plan(fleet, boats[1:], 3)
        for again in (fleet, Fleet(copy.deepcopy(HARBOUR)), Fleet(fleet.plain())):
            self.assertEqual(best_plan(again, [(kind, course) for kind, course in boats], 3), plan)
            self.assertEqual(parted(again, list(boats), 3), parts)
            self.assertEqual(best_plan(again, boats, 2), plan)

    def test_lists_that_were_told_may_be_changed(self):
        fleet = Fleet(HARBOUR)
        boats = [("buoy", 3), ("buoy", 4), ("red", 1)]
        expected = parted(fleet, list(boats), 3)
        told = parted(fleet, boats, 3)
        told[0][1].append(("tug", 3))
        told[1][1].clear()
        told.pop()
        self.assertEqual(boats, [("buoy", 3), ("buoy", 4), ("red", 1)])
        self.assertEqual(parted(fleet, boats, 3), expected)
        self.assertEqual(best_plan(fleet, boats, 3), best_plan(fleet, list(boats), 1))

    def test_what_was_handed_in_stays_and_is_not_kept(self):
        fleet = Fleet(HARBOUR)
        boats = [("tug", 3), ("red", 1), ("buoy", 9)]
        plan, parts = best_plan(fleet, boats, 3), parted(fleet, boats, 3)
        kept = copy.deepcopy((plan, parts))
        self.assertEqual(looks_of(plan), 1)
        self.assertEqual([told_by(fleet, plan, boat) for boat in boats], ["tug", "red", "buoy"])
        self.assertEqual(boats, [("tug", 3), ("red", 1), ("buoy", 9)])
        self.assertEqual((plan, parts), kept)
        boats.reverse()
        boats.pop()
        self.assertEqual((plan, parts), kept)
        self.assertEqual(fleet.plain(), HARBOUR)

    def test_columns_are_those_of_point_5(self):
        for side in POINTS:
            for told, boats in parted(Fleet(HARBOUR), all_boats(Fleet(HARBOUR)), side):
                for kind, course in boats:
                    self.assertEqual(column_by_steps(HARBOUR, kind, (side - course) % 32), told)


if __name__ == "__main__":
    unittest.main()
