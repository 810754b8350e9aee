"""Point 9: histories, the table of what they hide, and which kinds are likely."""

import copy
import random
import unittest

from handed import HARBOUR, NO_KINDS, column_by_steps, name_of, some_fleet, some_sights, watch_of
from lanternwatch.columns import seen
from lanternwatch.errors import NoKind
from lanternwatch.fleets import Fleet
from lanternwatch.histories import hides, history, likely, table
from lanternwatch.watches import Watch

POINTS = range(32)
# Ahead a beacon shows one colour after the other, by four points; behind it is dark.
BEACON_LAMPS = (("red", 0, 3), ("green", 4, 7), ("white", 8, 11), ("red", 10, 13))


def beacon(turn):
    """A fleet's tuple with one kind, a beacon with this turn."""
    return (("red", "green", "white"), (("beacon", turn, BEACON_LAMPS),))


def is_near(one, other, turn):
    """Whether so many steps, either way about, come from one course to the other."""
    up = down = one
    for _ in range(turn):
        if other in (up, down):
            return True
        up, down = (0 if up == 31 else up + 1), (31 if down == 0 else down - 1)
    return other in (up, down)


def table_by_trying(watch, kind):
    """The table, told by trying all courses of all histories, a list for each of them."""
    fleet, last = watch.fleet(), watch.last_moment()
    turn = fleet.turn(kind)
    rows, histories = [], [[course] for course in POINTS]
    for moment in range(last + 1):
        if moment:
            histories = [courses + [course] for courses in histories for course in POINTS
                         if is_near(courses[-1], course, turn)]
        row = []
        for end in POINTS:
            many = [hidden_by(watch, kind, courses) for courses in histories if courses[-1] == end]
            row.append(min([number for number in many if number is not None], default=None))
        rows.append(row)
    return rows


def hidden_by(watch, kind, courses):
    """How many lamps a history with these courses hides at the sights of its moments."""
    told = 0
    for sight in watch.sights():
        if sight[0] < len(courses):
            number = hides(watch.fleet(), kind, courses[sight[0]], sight)
            if number is None:
                return None
            told += number
    return told


def sights_of(plain, kind, courses, chance, most_hidden):
    """A sight of each of some moments: of a boat with these courses that hides some lamps."""
    sights = []
    for moment, course in enumerate(courses):
        side = chance.randint(0, 31)
        column = list(column_by_steps(plain, kind, (side - course) % 32))
        for _ in range(min(chance.randint(0, most_hidden), len(column))):
            column.pop(chance.randrange(len(column)))
        sights.append((moment, side, tuple(column)))
    return sights


class Told(unittest.TestCase):
    def told(self, watch, kind):
        """The table and the history, which agree with each other and with what the point says of them."""
        fleet, last = watch.fleet(), watch.last_moment()
        rows, answer = table(watch, kind), history(watch, kind)
        self.assertIs(type(rows), list)
        self.assertEqual(len(rows), 0 if last is None else last + 1)
        for row in rows:
            self.assertIs(type(row), list)
            self.assertEqual(len(row), 32)
            self.assertLessEqual(set([type(number) for number in row]), {int, type(None)})
        ends = [number for number in rows[-1] if number is not None] if rows else [0]
        if not ends:
            self.assertIsNone(answer)
            return rows, None
        self.assertIs(type(answer), tuple)
        many, courses = answer
        self.assertEqual((type(many), type(courses)), (int, list))
        self.assertEqual(many, min(ends))
        self.assertEqual(len(courses), len(rows))
        for course in courses:
            self.assertIs(type(course), int)
            self.assertIn(course, POINTS)
        for one, other in zip(courses, courses[1:]):
            self.assertTrue(is_near(one, other, fleet.turn(kind)), courses)
        self.assertEqual(hidden_by(watch, kind, courses), many)
        return rows, answer


class Histories(Told):
    def test_no_sight(self):
        watch = watch_of([])
        for kind in watch.fleet().kinds():
            self.assertEqual(table(watch, kind), [])
            self.assertEqual(history(watch, kind), (0, []))
            self.told(watch, kind)

    def test_one_sight_at_moment_0(self):
        watch = watch_of([(0, 10, ("white", "red"))])
        # The bearings are 10 less the course, by 32: those of a tug with white and red are 0 to 7.
        rows, answer = self.told(watch, "tug")
        expected = [None] * 32
        for course in range(3, 9):
            expected[course] = 0
        expected[9] = expected[10] = 1
        self.assertEqual(rows, [expected])
        self.assertEqual(answer[0], 0)
        self.assertIn(answer[1][0], range(3, 9))
        self.assertEqual(self.told(watch, "buoy"), ([[None] * 32], None))

    def test_moments_without_a_sight(self):
        watch = watch_of([(2, 10, ("green",))], beacon(1))
        rows, answer = self.told(watch, "beacon")
        self.assertEqual(rows[:2], [[0] * 32] * 2)
        self.assertEqual(rows[2], [0 if course in range(3, 7) else None for course in POINTS])
        self.assertEqual((answer[0], len(answer[1])), (0, 3))

    def test_moments_between(self):
        # Red alone shows at the bearings 0 to 3, 12 and 13; at 10 and 11 with white.
        watch = watch_of([(0, 3, ("red",)), (9, 11, ("red",))], beacon(1))
        rows, answer = self.told(watch, "beacon")
        for moment in range(9):
            expected = []
            for course in POINTS:
                none_hidden = any([is_near(course, first, moment) for first in (0, 1, 2, 3, 22, 23)])
                one_hidden = any([is_near(course, first, moment) for first in (24, 25)])
                expected.append(0 if none_hidden else 1 if one_hidden else None)
            self.assertEqual(rows[moment], expected)
        self.assertEqual([rows[9][course] for course in (7, 8, 11, 12)], [None, 0, 0, None])
        self.assertEqual(answer[0], 0)

    def test_too_far_to_turn(self):
        # The courses are 25 to 28, and a moment later 9 to 12.
        far = [(0, 0, ("green",)), (1, 16, ("green",))]
        for turn in range(17):
            watch = watch_of(far, beacon(turn))
            answer = self.told(watch, "beacon")[1]
            self.assertEqual(answer is None, turn < 13, turn)

    def test_a_turn_of_0(self):
        watch = watch_of([(0, 4, ("green",)), (5, 6, ("green",))], beacon(0))
        answer = self.told(watch, "beacon")[1]
        self.assertIn(answer, [(0, [course] * 6) for course in (31, 0)])
        watch.put((3, 16, ("green",)))
        self.assertIsNone(self.told(watch, "beacon")[1])

    def test_a_turn_of_1(self):
        sights = [(moment, (4 + 4 * moment) % 32, ("green",)) for moment in range(5)]
        # Four points a moment are too many for one; green shows over four points.
        self.assertIsNone(self.told(watch_of(sights, beacon(1)), "beacon")[1])
        self.assertIsNotNone(self.told(watch_of(sights, beacon(4)), "beacon")[1])
        slow = [(moment, 4 + moment, ("green",)) for moment in range(9)]
        self.assertEqual(self.told(watch_of(slow, beacon(1)), "beacon")[1][0], 0)

    def test_a_turn_of_16(self):
        chance = random.Random(2)
        sights = [(moment, chance.randint(0, 31), ("green",)) for moment in range(30)]
        self.assertEqual(self.told(watch_of(sights, beacon(16)), "beacon")[1][0], 0)
        self.assertIsNone(self.told(watch_of(sights, beacon(3)), "beacon")[1])

    def test_turning_over_the_point_31_to_0(self):
        # Sights of one course alone: a lamp that shows ahead.
        plain = (("red",), (("boat", 2, (("red", 0, 0),)),))
        for first, second in ((31, 0), (0, 31), (30, 0), (31, 1), (1, 31), (0, 30)):
            watch = watch_of([(0, first, ("red",)), (1, second, ("red",))], plain)
            rows, answer = self.told(watch, "boat")
            self.assertEqual(answer, (0, [first, second]))
            self.assertEqual(rows[1], [0 if course == second else None for course in POINTS])
        for first, second in ((30, 1), (1, 30), (29, 0), (31, 2)):
            watch = watch_of([(0, first, ("red",)), (1, second, ("red",))], plain)
            self.assertIsNone(self.told(watch, "boat")[1])

    def test_several_sights_of_one_moment(self):
        watch = watch_of([(0, 10, ("white",)), (0, 12, ("white", "red"))])
        rows, answer = self.told(watch, "tug")
        self.assertEqual(rows, table_by_trying(watch, "tug"))
        self.assertEqual(answer[0], 1)
        watch.put((0, 10, ("green",)))
        self.assertEqual(self.told(watch, "tug"), ([[None] * 32], None))

    def test_the_order_of_sights_tells_nothing(self):
        sights = sights_of(HARBOUR, "tug", [5, 7, 8, 8, 6, 3, 0, 30, 31], random.Random(1), 1)
        sights.append((4, 9, ()))
        expected = self.told(watch_of(sights), "tug")
        self.assertIsNotNone(expected[1])
        for seed in range(6):
            random.Random(seed).shuffle(sights)
            self.assertEqual(self.told(watch_of(sights), "tug"), expected)

    def test_a_detour_that_hides_more_at_first(self):
        # At moment 0 course 0 hides none, but only a boat far from it fits moment 1.
        plain = (("red", "green"), (("boat", 2, (("red", 0, 15), ("green", 8, 10))),))
        watch = watch_of([(0, 9, ("red",)), (1, 9, ("red", "green"))], plain)
        rows, answer = self.told(watch, "boat")
        self.assertEqual((rows[0][5], rows[0][0]), (0, 1))
        self.assertEqual(answer[0], 0)
        self.assertEqual(rows, table_by_trying(watch, "boat"))
        watch.put((2, 9, ("red", "green")))
        watch.put((2, 17, ("green",)))
        self.assertIsNone(self.told(watch, "boat")[1])

    def test_no_history(self):
        watch = watch_of([(3, 0, ("green", "green"))])
        for kind in ("tug", "buoy", "twin", "red"):
            rows, answer = self.told(watch, kind)
            self.assertIsNone(answer)
            self.assertEqual(rows, [[0] * 32] * 3 + [[None] * 32])

    def test_none_stays_none(self):
        watch = watch_of([(1, 0, ("green",)), (4, 0, ())])
        rows, answer = self.told(watch, "tug")
        self.assertIsNone(answer)
        self.assertEqual(rows, [[0] * 32] + [[None] * 32] * 4)

    def test_the_last_moment_of_all(self):
        watch = watch_of([(99, 3, ("red",)), (0, 3, ("white",))])
        rows, answer = self.told(watch, "tug")
        self.assertEqual((len(rows), len(answer[1])), (100, 100))


class AllCoursesTried(Told):
    def tried(self, watch, kind):
        """As many as all histories, each tried."""
        rows, answer = self.told(watch, kind)
        self.assertEqual(rows, table_by_trying(watch, kind))
        return answer

    def test_small_turns(self):
        for seed in range(20):
            chance = random.Random(seed)
            plain = some_fleet(seed)
            kind, _, lamps = plain[1][0]
            plain = (plain[0], ((kind, seed % 3, lamps),) + plain[1][1:])
            courses = [chance.randint(0, 31)]
            while len(courses) < (6, 4, 3)[seed % 3]:
                courses.append((courses[-1] + chance.randint(-(seed % 3), seed % 3)) % 32)
            sights = sights_of(plain, kind, courses, chance, 2)
            sights += sights_of(plain, kind, courses, chance, 1)[:2]
            chance.shuffle(sights)
            self.assertIsNotNone(self.tried(watch_of(sights, plain), kind))
            self.tried(watch_of(sights[:2], plain), kind)

    def test_sights_of_nothing(self):
        for seed in range(20):
            plain = some_fleet(seed)
            kind, _, lamps = plain[1][-1]
            plain = (plain[0], ((kind, seed % 2, lamps),))
            sights = [(moment % 4, side, column[:2]) for moment, side, column in some_sights(seed, plain[0], 4)]
            self.tried(watch_of(sights, plain), kind)

    def test_large_turns(self):
        for turn in (5, 15, 16):
            chance = random.Random(turn)
            sights = sights_of(beacon(turn), "beacon", [4, 9], chance, 1) + [(1, 3, ())]
            self.assertIsNotNone(self.tried(watch_of(sights, beacon(turn)), "beacon"))

    def test_the_harbour(self):
        sights = [(0, 10, ("white",)), (1, 12, ("red",)), (1, 3, ()), (2, 0, ("white",))]
        for kind in ("buoy", "red"):
            self.tried(watch_of(sights), kind)


class ManySights(Told):
    def test_thirty_two_sights(self):
        for seed in range(8):
            chance = random.Random(seed)
            plain = HARBOUR if seed % 2 else some_fleet(seed)
            fleet = Fleet(plain)
            kind = fleet.kinds()[seed % len(fleet.kinds())]
            courses = [chance.randint(0, 31)]
            while len(courses) < 32:
                turn = fleet.turn(kind)
                courses.append((courses[-1] + chance.randint(-turn, turn)) % 32)
            watch = watch_of(sights_of(plain, kind, courses, chance, seed % 3), plain)
            many, _ = self.told(watch, kind)[1]
            self.assertLessEqual(many, hidden_by(watch, kind, courses))
            self.assertEqual(len(watch.sights()), 32)

    def test_thirty_two_sights_of_one_moment(self):
        fleet = Fleet(HARBOUR)
        watch = watch_of([(99, side, seen(fleet, "tug", 9, side)[:1]) for side in POINTS])
        rows, answer = self.told(watch, "tug")
        self.assertEqual(rows[98], [0] * 32)
        # Of each column all colours but the first are hidden.
        self.assertEqual(rows[99][9], sum([len(seen(fleet, "tug", 9, side)) - 1 for side in POINTS
                                           if seen(fleet, "tug", 9, side)]))
        self.assertEqual(answer[0], rows[99][answer[1][99]])


class Likely(unittest.TestCase):
    def test_no_sight(self):
        told = likely(watch_of([]))
        self.assertEqual(told, [(0, "tug"), (0, "buoy"), (0, "twin"), (0, "red")])
        self.assertIs(type(told), list)
        self.assertEqual([[type(pair)] + [type(part) for part in pair] for pair in told], [[tuple, int, str]] * 4)

    def test_just_the_kinds_that_have_a_history(self):
        self.assertEqual(likely(watch_of([(0, 10, ("green",))])), [(0, "buoy")])
        self.assertEqual(likely(watch_of([(0, 10, ("white",))])), [(0, "tug"), (0, "twin")])
        self.assertEqual(likely(watch_of([(0, 10, ("green", "red"))])), [])

    def test_by_many_then_in_the_kinds_order(self):
        lamps = {"zz": 2, "m": 1, "a": 2, "kk": 0, "b": 1}
        kinds = [(kind, 3, tuple([("red", 0, 31)] * (many + 1))) for kind, many in lamps.items()]
        kinds.append(("no", 3, (("white", 0, 31),)))
        watch = watch_of([(1, 2, ("red",))], (("red", "white"), tuple(kinds)))
        self.assertEqual(likely(watch), [(0, "kk"), (1, "m"), (1, "b"), (2, "zz"), (2, "a")])
        watch.put((0, 2, ("red",)))
        self.assertEqual(likely(watch), [(0, "kk"), (2, "m"), (2, "b"), (4, "zz"), (4, "a")])
        watch.put((0, 2, ("red", "red")))
        self.assertEqual(likely(watch), [(2, "m"), (2, "b"), (5, "zz"), (5, "a")])

    def test_as_the_histories(self):
        for seed in range(12):
            plain = some_fleet(seed)
            sights = [(moment % 5, side, column[:seed % 3]) for moment, side, column in
                      some_sights(seed, plain[0], 3)]
            watch = watch_of(sights, plain)
            found = [(history(watch, kind), at, kind) for at, kind in enumerate(watch.fleet().kinds())]
            ranks = sorted([(answer[0], at, kind) for answer, at, kind in found if answer is not None])
            self.assertEqual(likely(watch), [(many, kind) for many, _, kind in ranks])


class Refusals(unittest.TestCase):
    def test_no_kind(self):
        for sights in ([], [(1, 2, ("red",))], some_sights(3, HARBOUR[0], 40)):
            watch = watch_of(sights)
            for value in NO_KINDS:
                with self.subTest(kind=name_of(value)):
                    for ask in (table, history):
                        with self.assertRaises(NoKind) as caught:
                            ask(watch, value)
                        self.assertIs(type(caught.exception), NoKind)
            self.assertEqual(watch.sights(), sights)

    def test_kinds_of_the_watches_fleet(self):
        watch = watch_of([(0, 3, ("red",))], beacon(1))
        for kind in ("tug", "red", "beacons"):
            with self.assertRaises(NoKind):
                table(watch, kind)
            with self.assertRaises(NoKind):
                history(watch, kind)
        self.assertEqual(history(watch, "beacon")[0], 0)


class AskersOwn(unittest.TestCase):
    def setUp(self):
        self.sights = [(0, 10, ("white",)), (3, 12, ("white", "red")), (1, 20, ())]
        self.watch = watch_of(self.sights)

    def asked(self, watch):
        """All that this file's functions tell of a watch."""
        kinds = watch.fleet().kinds()
        return ([table(watch, kind) for kind in kinds], [history(watch, kind) for kind in kinds], likely(watch))

    def test_lists_that_were_told_may_be_changed(self):
        expected = copy.deepcopy(self.asked(self.watch))
        told = table(self.watch, "tug")
        told[0][0] = 77
        # No list stands twice among those that are told.
        self.assertEqual(told[1:], expected[0][0][1:])
        self.assertEqual(told[0][1:], expected[0][0][0][1:])
        told[1].clear()
        told.pop()
        courses = history(self.watch, "tug")[1]
        courses[0] = 99
        courses.clear()
        likely(self.watch).clear()
        table(watch_of([]), "tug").append(3)
        history(watch_of([]), "tug")[1].append(3)
        self.assertEqual(self.asked(self.watch), expected)
        self.assertEqual(table(watch_of([]), "tug"), [])
        self.assertEqual(history(watch_of([]), "tug"), (0, []))

    def test_lists_of_moments_without_a_sight(self):
        told = table(watch_of([(4, 3, ())]), "buoy")
        told[0][5] = 9
        told[2].clear()
        self.assertEqual(told[1], [0] * 32)
        self.assertEqual(told[3], [0] * 32)

    def test_what_is_done_later_changes_nothing_told(self):
        told = self.asked(self.watch)
        kept = copy.deepcopy(told)
        self.watch.put((2, 3, ("green",)))
        self.asked(self.watch)
        self.assertEqual(told, kept)

    def test_asked_again_the_same_is_told(self):
        told = self.asked(self.watch)
        self.asked(watch_of([(0, 10, ("green",))]))
        self.asked(watch_of(some_sights(2, some_fleet(5)[0], 3), some_fleet(5)))
        self.assertEqual(self.asked(self.watch), told)
        self.assertEqual(self.asked(watch_of(self.sights, copy.deepcopy(HARBOUR))), told)
        # Asked in another order, of a watch that is asked for the first time.
        watch = Watch(Fleet(HARBOUR))
        for sight in self.sights:
            watch.put(sight)
        self.assertEqual(history(watch, "red"), told[1][3])
        self.assertEqual(table(watch, "tug"), told[0][0])

    def test_the_watch_stays(self):
        steady = self.watch.steady()
        self.asked(self.watch)
        with self.assertRaises(NoKind):
            history(self.watch, "boat")
        self.assertEqual(self.watch.sights(), self.sights)
        self.assertEqual(self.watch.steady(), steady)
        self.assertEqual(self.watch.last_moment(), 3)
        self.assertEqual(self.watch.fleet().plain(), HARBOUR)


if __name__ == "__main__":
    unittest.main()
