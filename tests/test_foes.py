"""Point 11: a foe, that answers looks so that the kind can't be told."""

import copy
import itertools
import random
import unittest

from handed import (HARBOUR, NAMES, NO_LISTS, NO_MANY, NO_POINTS, boats_of, parts_by_steps, points_fleet,
                    some_fleet, told_surely)
from lanternwatch.columns import all_boats
from lanternwatch.errors import BadBoats, BadMany, BadPoint, NoFoe
from lanternwatch.fleets import Fleet
from lanternwatch.foes import Foe
from lanternwatch.looking import best_plan

POINTS = range(32)
AHEAD = points_fleet("a", "bb", "ccc")
# Each look tells one boat at the most, so that four of each of two kinds outlast three looks.
FOUR = [("a", course) for course in (0, 3, 9, 31)] + [("bb", course) for course in (1, 4, 10, 30)]


class Foes(unittest.TestCase):
    def asked(self, plain, boats, sides):
        """A foe that is asked for all of these sides; it lasts."""
        fleet = Fleet(plain)
        foe = Foe(fleet, list(boats), len(sides))
        left = [boat for boat in all_boats(fleet) if boat in boats]
        answers = []
        self.assertEqual((foe.answers(), foe.left()), (answers, left))
        for side in sides:
            told = foe.answer(side)
            self.assertIs(type(told), tuple)
            parts = parts_by_steps(plain, left, side)
            self.assertIn(told, parts)
            left = parts[told]
            answers.append((side, told))
            self.assertEqual((foe.answers(), foe.left()), (answers, left))
            self.assertEqual((type(foe.answers()), type(foe.left())), (list, list))
        self.assertGreaterEqual(len(set([kind for kind, _ in left])), 2, sides)
        with self.assertRaises(BadMany):
            foe.answer(0)
        self.assertEqual((foe.answers(), foe.left()), (answers, left))
        return answers


class Lasting(Foes):
    def test_no_look(self):
        self.asked(HARBOUR, [("tug", 3), ("red", 1)], [])
        self.asked(HARBOUR, [("red", 1), ("tug", 3), ("tug", 9), ("buoy", 3)], [])

    def test_one_look(self):
        for side in POINTS:
            self.asked(AHEAD, FOUR[2:6], [side])
            self.asked(HARBOUR, [("tug", 5), ("twin", 21), ("red", 8), ("red", 9), ("buoy", 2)], [side])

    def test_two_looks(self):
        for sides in itertools.product(POINTS, repeat=2):
            self.asked(AHEAD, FOUR[1:7], sides)

    def test_three_looks(self):
        chance = random.Random(5)
        for _ in range(300):
            sides = [chance.randint(0, 31) for _ in range(3)]
            self.asked(AHEAD, FOUR, sides)
        # Sides to which a boat shows its lamp, which tell the most.
        for sides in itertools.product((0, 1, 3, 4, 9, 30), repeat=3):
            self.asked(AHEAD, FOUR, sides)

    def test_unlike_kinds_that_are_alike(self):
        for boats in ([("tug", 5), ("twin", 21)], [("twin", 21), ("buoy", 3), ("tug", 5), ("tug", 6)]):
            self.asked(HARBOUR, boats, [])
            for side in POINTS:
                self.asked(HARBOUR, boats, [side])
                self.asked(HARBOUR, boats, [side, 31 - side])
                self.asked(HARBOUR, boats, [side, 5, (side * 7) % 32])

    def test_the_same_side_again(self):
        answers = self.asked(AHEAD, FOUR, [3, 3, 3])
        self.assertEqual(len(set(answers)), 1)

    def test_many_fleets(self):
        lasted = set()
        for seed in range(60):
            plain = HARBOUR if seed % 10 == 0 else some_fleet(seed)
            boats = boats_of(plain, seed, 16)
            chance = random.Random(seed)
            for most in range(4):
                if best_plan(Fleet(plain), boats, most) is None:
                    lasted.add(most)
                    for _ in range(20):
                        self.asked(plain, boats, [chance.randint(0, 31) for _ in range(most)])
        self.assertEqual(lasted, {0, 1, 2, 3})

    def test_forty_boats_and_two_looks(self):
        kinds = [(kind, 3, (("a", 0, 14 + at), ("a", 8, 9))) for at, kind in enumerate(NAMES[:3])]
        plain = (("a",), tuple(kinds))
        boats = boats_of(plain, 3, 40)
        self.assertIsNone(best_plan(Fleet(plain), boats, 2))
        for side in POINTS:
            self.asked(plain, boats, [side, (side * 5 + 3) % 32])

    def test_sixteen_boats_and_three_looks(self):
        boats = [("a", course) for course in range(0, 16, 2)] + [("bb", course) for course in range(1, 16, 2)]
        chance = random.Random(6)
        for _ in range(60):
            self.asked(AHEAD, boats, [chance.randint(0, 16) for _ in range(3)])


class WhereThereIsOne(unittest.TestCase):
    def there(self, plain, boats):
        """For how many looks there is a foe: just where there is no plan."""
        fleet = Fleet(plain)
        lasts = []
        for most in range(4):
            try:
                Foe(fleet, list(boats), most)
            except NoFoe as error:
                self.assertIs(type(error), NoFoe)
                self.assertIsNotNone(best_plan(fleet, boats, most))
            else:
                self.assertIsNone(best_plan(fleet, boats, most))
                lasts.append(most)
        return lasts

    def test_boats_of_one_kind(self):
        self.assertEqual(self.there(HARBOUR, [("tug", 3)]), [])
        self.assertEqual(self.there(HARBOUR, [("tug", course) for course in POINTS]), [])

    def test_boats_told_by_so_many_looks(self):
        for many in range(1, 5):
            self.assertEqual(self.there(AHEAD, FOUR[:many] + FOUR[4:]), list(range(many)))

    def test_unlike_kinds_that_are_alike(self):
        self.assertEqual(self.there(HARBOUR, [("tug", 5), ("twin", 21)]), [0, 1, 2, 3])

    def test_all_sides_tried(self):
        for seed in range(40):
            plain = HARBOUR if seed % 10 == 0 else some_fleet(seed)
            boats = boats_of(plain, seed, 2 + seed % 9)
            lasts = [most for most in self.there(plain, boats) if most < 3]
            self.assertEqual(lasts, [most for most in range(3) if not told_surely(plain, boats, most)])


class Refusals(unittest.TestCase):
    def refused(self, error, *handed):
        with self.assertRaises(error) as caught:
            Foe(Fleet(HARBOUR), *handed)
        self.assertIs(type(caught.exception), error)

    def test_no_boats_come_first(self):
        for value in NO_LISTS:
            with self.subTest(boats=value.__class__.__name__):
                for most in (0, 1, 3, 4, None):
                    self.refused(BadBoats, value, most)

    def test_boats_of_another_fleet(self):
        self.refused(BadBoats, [("tug", 3), ("boat", 3)], 0)
        self.refused(BadBoats, [("a", 3), ("bb", 3)], 0)

    def test_then_no_number_of_looks(self):
        for value in NO_MANY:
            with self.subTest(most=value.__class__.__name__):
                # Also where there is no foe for any number of looks.
                for boats in ([("tug", 3)], [("tug", 5), ("twin", 21)], [("tug", 3), ("red", 1)]):
                    self.refused(BadMany, boats, value)

    def test_then_no_foe(self):
        for most in range(4):
            self.refused(NoFoe, [("tug", 3)], most)
        for most in range(1, 4):
            self.refused(NoFoe, [("tug", 3), ("buoy", 3)], most)

    def unchanged(self, foe, error, value):
        """The side is refused, and nothing changes by that."""
        before = (foe.answers(), foe.left())
        with self.subTest(side=value.__class__.__name__):
            with self.assertRaises(error) as caught:
                foe.answer(value)
            self.assertIs(type(caught.exception), error)
        self.assertEqual((foe.answers(), foe.left()), before)

    def test_no_point(self):
        foe = Foe(Fleet(AHEAD), FOUR, 2)
        for value in NO_POINTS:
            self.unchanged(foe, BadPoint, value)
        foe.answer(3)
        for value in NO_POINTS:
            self.unchanged(foe, BadPoint, value)
        foe.answer(4)
        # Behind the last answer, too, no point is told ahead of it.
        for value in NO_POINTS:
            self.unchanged(foe, BadPoint, value)
        for side in POINTS:
            self.unchanged(foe, BadMany, side)
        self.assertEqual([side for side, _ in foe.answers()], [3, 4])

    def test_no_look_is_let(self):
        foe = Foe(Fleet(AHEAD), FOUR, 0)
        for value in NO_POINTS:
            self.unchanged(foe, BadPoint, value)
        for side in POINTS:
            self.unchanged(foe, BadMany, side)
        self.assertEqual((foe.answers(), foe.left()), ([], FOUR))

    def test_refusals_are_not_counted(self):
        foe, other = Foe(Fleet(AHEAD), FOUR, 3), Foe(Fleet(AHEAD), FOUR, 3)
        for side in (9, 0, 31):
            for value in (None, 32, -1, True, "9"):
                self.unchanged(foe, BadPoint, value)
            self.assertEqual(foe.answer(side), other.answer(side))
        self.unchanged(foe, BadMany, 9)
        self.assertEqual((foe.answers(), foe.left()), (other.answers(), other.left()))


class AskersOwn(unittest.TestCase):
    def told(self, fleet, boats, sides):
        """All that a foe tells for these sides."""
        foe = Foe(fleet, boats, len(sides))
        told = [foe.left()]
        for side in sides:
            told += [foe.answer(side), foe.left()]
        return told + [foe.answers()]

    def test_the_order_of_boats_tells_nothing(self):
        for seed in range(20):
            boats = list(FOUR)
            chance = random.Random(seed)
            sides = [chance.randint(0, 31) for _ in range(3)]
            expected = self.told(Fleet(AHEAD), FOUR, sides)
            chance.shuffle(boats)
            self.assertEqual(self.told(Fleet(AHEAD), boats, sides), expected)

    def test_asked_again_the_same_is_told(self):
        fleet = Fleet(AHEAD)
        expected = self.told(fleet, FOUR, [3, 9, 1])
        self.told(fleet, FOUR[1:], [1, 9])
        self.told(Fleet(HARBOUR), [("tug", 5), ("twin", 21)], [1, 2, 3])
        best_plan(fleet, FOUR, 3)
        for again in (fleet, Fleet(copy.deepcopy(AHEAD)), Fleet(fleet.plain())):
            self.assertEqual(self.told(again, list(FOUR), [3, 9, 1]), expected)

    def test_two_foes_by_turns(self):
        fleet = Fleet(AHEAD)
        one, other = Foe(fleet, FOUR, 3), Foe(fleet, FOUR, 3)
        for side in (3, 9, 1):
            told = one.answer(side)
            self.assertEqual(len(other.answers()), len(one.answers()) - 1)
            self.assertEqual(other.answer(side), told)
            self.assertEqual(other.left(), one.left())

    def test_lists_that_were_told_may_be_changed(self):
        foe = Foe(Fleet(AHEAD), FOUR, 2)
        foe.left().clear()
        foe.left().append(("a", 7))
        foe.answers().append((3, ()))
        self.assertEqual((foe.answers(), foe.left()), ([], FOUR))
        told = foe.answer(3)
        left = foe.left()
        foe.left().reverse()
        foe.answers().clear()
        self.assertEqual((foe.answers(), foe.left()), ([(3, told)], left))

    def test_what_is_done_later_changes_nothing_told(self):
        foe = Foe(Fleet(AHEAD), FOUR, 2)
        first = (foe.answers(), foe.left())
        told = foe.answer(1)
        second = (foe.answers(), foe.left())
        kept = copy.deepcopy(second)
        foe.answer(4)
        self.assertEqual(first, ([], FOUR))
        self.assertEqual(second, kept)
        self.assertEqual(second[0], [(1, told)])

    def test_what_was_handed_in_stays_and_is_not_kept(self):
        fleet = Fleet(AHEAD)
        boats = FOUR[::-1]
        foe = Foe(fleet, boats, 2)
        self.assertEqual(boats, FOUR[::-1])
        boats.clear()
        self.assertEqual(foe.left(), FOUR)
        other = Foe(Fleet(AHEAD), FOUR, 2)
        self.assertEqual([foe.answer(side) for side in (4, 0)], [other.answer(side) for side in (4, 0)])
        self.assertEqual(foe.left(), other.left())
        self.assertEqual(fleet.plain(), AHEAD)


if __name__ == "__main__":
    unittest.main()
