"""Point 12: a desk, that answers lines by lists of texts."""

import copy
import random
import unittest

from handed import HARBOUR, ODD, TUPLES, boats_of, parts_by_steps, points_fleet, some_fleet, some_sights, watch_of
from lanternwatch.columns import all_boats, sectors, seen
from lanternwatch.desk import Desk
from lanternwatch.errors import BadText, Full
from lanternwatch.fleets import Fleet
from lanternwatch.histories import history, likely
from lanternwatch.looking import best_plan, looks_of
from lanternwatch.reading import read
from lanternwatch.showing import shown
from lanternwatch.watches import Watch

SMALL = (("red", "white"), (("tug", 1, (("red", 0, 7), ("white", 0, 3))), ("pilot", 16, (("white", 30, 1),))))
# What is no line, of a desk with the harbour's fleet and room for sights.
NO_LINES = ODD + TUPLES + [0, 3, ["steady"], ("steady",), b"steady", "", " ", "     ", "x", "tug", "tug 3", "help",
                           "dark", "none", "done", "no line", "Steady", "STEADY", "stead", "steadyy", "steady steady",
                           "steady 3", "steady tug", "likely 1", "likely tug", "Likely", "likelytug", "agree",
                           "agree 1 2", "agree 100", "agree 01", "agree 00", "agree -1", "agree +1", "agree 1.0",
                           "agree x", "agree tug", "agree 999", "agrees 1", "agree1", "sectors", "sectors tug tug",
                           "sectors tug 3", "sectors x y", "sector tug", "hidden", "hidden tug 3", "hidden x y",
                           "hide tug", "plan", "plan 4", "plan 03", "plan 00", "plan -1", "plan 1 1", "plan x",
                           "plan tug", "plan 10", "plan 1.", "plans 1", "sight", "sight 1", "sight 100 3 red",
                           "sight 01 3 red", "sight 1 03 red", "sight 1 32 red", "sight -1 3", "sight 1 x red",
                           "sight 1 3 blue", "sight 1 3 red tug", "sight 1 3 red red red red red red red",
                           "sight red 1 3", "Sight 1 3 red", "sights 1 3 red", "sight 1 3 dark", "sight 1 3 Red",
                           "colours red green white", "colours red", "kind boat 3", "kind tug 3", "lamp red 0 3"]
# Signs that no line has, wherever they stand.
for _line in ("steady", "likely", "agree 3", "sectors tug", "sectors x", "hidden tug", "hidden x", "plan 1",
              "sight 1 3 red"):
    for _sign in ("#", "\t", "\n"):
        NO_LINES += [_sign + _line, _line + _sign, f"{_sign} {_line}", f"{_line} {_sign}", f"{_line} {_sign} remark",
                     _line[:3] + _sign + _line[3:]]
        if " " in _line:
            NO_LINES += [_line.replace(" ", _sign), _line.replace(" ", " " + _sign)]
NO_LINES += ["#", "# steady", "\n", "\t", " \n ", "steady\nsteady"]


def desk_of(sights=(), plain=HARBOUR):
    """A desk with these sights, whatever their number."""
    desk = Desk(shown(plain, list(sights)[:60]))
    for moment, side, column in list(sights)[60:]:
        desk.say(" ".join(["sight", str(moment), str(side), *column]))
    return desk


def rows(pairs):
    """A text of each pair."""
    return [f"{one} {other}" for one, other in pairs]


class Saying(unittest.TestCase):
    def say(self, desk, line):
        """The answer, a list of texts, each of words with single blanks between."""
        answer = desk.say(line)
        self.assertIs(type(answer), list)
        for text in answer:
            self.assertIs(type(text), str)
            self.assertEqual(text, " ".join(text.split()))
        return answer


class Texts(unittest.TestCase):
    def test_bad_text(self):
        good = shown(HARBOUR, [(1, 2, ("red",))]).split("\n")
        for at in range(len(good)):
            for line in ("what 1 2", good[at] + "\t", good[at] + " 1 x"):
                with self.assertRaises(BadText) as caught:
                    Desk("\n".join(good[:at] + [line] + good[at + 1:]))
                self.assertIs(type(caught.exception), BadText)
                self.assertEqual(caught.exception.line, at + 1)

    def test_what_lacks(self):
        for text, line in (("", 2), ("colours red", 2), ("colours red\nkind a 3", 3), ("\n\n# no", 4)):
            with self.assertRaises(BadText) as caught:
                Desk(text)
            self.assertEqual(caught.exception.line, line)

    def test_what_is_no_text(self):
        for value in ODD + TUPLES + [0, 7, HARBOUR, (HARBOUR, []), [shown(HARBOUR, [])]]:
            with self.assertRaises(BadText) as caught:
                Desk(value)
            self.assertIs(type(caught.exception), BadText)
            self.assertEqual(caught.exception.line, 0)

    def test_a_sight_too_many_for_a_text(self):
        text = shown(HARBOUR, [(1, 2, ("red",))] * 61)
        with self.assertRaises(BadText) as caught:
            Desk(text)
        self.assertEqual(caught.exception.line, len(text.split("\n")))
        self.assertEqual(len(desk_of([(1, 2, ("red",))] * 60).watch().sights()), 60)

    def test_the_watch_of_the_text(self):
        sights = some_sights(7, HARBOUR[0], 30)
        watch = desk_of(sights).watch()
        self.assertIs(type(watch), Watch)
        self.assertEqual(watch.sights(), sights)
        self.assertEqual(watch.fleet().plain(), HARBOUR)


class Sights(Saying):
    def test_done(self):
        desk = desk_of()
        self.assertEqual(self.say(desk, "sight 4 31 white red"), ["done"])
        self.assertEqual(desk.watch().sights(), [(4, 31, ("white", "red"))])
        self.assertEqual(self.say(desk, "sight 0 0"), ["done"])
        self.assertEqual(self.say(desk, "sight 99 31 red red red red red red"), ["done"])
        self.assertEqual(desk.watch().sights(), [(4, 31, ("white", "red")), (0, 0, ()), (99, 31, ("red",) * 6)])
        self.assertEqual(desk.watch().last_moment(), 99)

    def test_behind_those_of_the_text(self):
        sights = some_sights(7, HARBOUR[0], 5)
        desk = desk_of(sights)
        self.say(desk, "sight 4 31 green")
        self.assertEqual(desk.watch().sights(), sights + [(4, 31, ("green",))])

    def test_full(self):
        sights = some_sights(7, HARBOUR[0], 199)
        desk = desk_of(sights)
        self.assertEqual(self.say(desk, "sight 4 31 green"), ["done"])
        for line in ("sight 4 31 green", "sight 0 0", "  sight  99  31  red "):
            self.assertEqual(self.say(desk, line), ["full"])
        self.assertEqual(desk.watch().sights(), sights + [(4, 31, ("green",))])
        for line in ("sight 4 32 green", "sight 4 31 blue", "sight 100 0", "sight", "sight 4 31 green #"):
            self.assertEqual(self.say(desk, line), ["no line"])
        self.assertEqual(self.say(desk, "steady"), [])

    def test_refusals_are_not_counted(self):
        desk = desk_of()
        for at in range(200):
            self.assertEqual(self.say(desk, "sight 1 32 red"), ["no line"])
            self.assertEqual(self.say(desk, f"sight {at // 2} {at % 32} red"), ["done"])
        self.assertEqual(self.say(desk, "sight 1 31 red"), ["full"])
        self.assertEqual(len(desk.watch().sights()), 200)


class Boats(Saying):
    def test_word_for_word(self):
        desk = desk_of([(4, 10, ("white", "red", "white"))])
        expected = ["tug 9", "tug 10", "twin 25", "twin 26"]
        self.assertEqual(self.say(desk, "steady"), expected)
        self.assertEqual(self.say(desk, "agree 4"), expected)
        self.assertEqual(self.say(desk, "agree 5"), rows(all_boats(Fleet(HARBOUR))))
        self.say(desk, "sight 5 10 green")
        self.assertEqual(self.say(desk, "agree 4"), expected)
        self.assertEqual(self.say(desk, "agree 5"), [f"buoy {course}" for course in range(32)])
        self.assertEqual(self.say(desk, "steady"), [])
        self.say(desk, "sight 5 10")
        self.assertEqual(self.say(desk, "agree 5"), [])

    def test_as_the_watch(self):
        for seed in range(10):
            plain = some_fleet(seed)
            fleet = Fleet(plain)
            kind, course = all_boats(fleet)[seed * 7 % len(all_boats(fleet))]
            sights = [(moment, moment * 5 % 32, seen(fleet, kind, course, moment * 5 % 32)) for moment in (0, 3, 99)]
            desk, watch = desk_of(sights, plain), watch_of(sights, plain)
            self.assertEqual(self.say(desk, "steady"), rows(watch.steady()))
            for moment in range(100):
                self.assertEqual(self.say(desk, f"agree {moment}"), rows(watch.agreeing(moment)))


class Sectors(Saying):
    def test_word_for_word(self):
        desk = desk_of()
        self.assertEqual(self.say(desk, "sectors tug"), [
            "0 1 white red white", "2 7 white red", "8 11 red", "12 23 dark", "24 29 white", "30 31 white white"])
        self.assertEqual(self.say(desk, "sectors buoy"), ["0 31 green"])
        self.assertEqual(self.say(desk, "sectors red"), ["31 0 red", "1 14 dark", "15 16 red", "17 30 dark"])

    def test_as_they_are_told(self):
        for seed in range(12):
            plain = some_fleet(seed)
            desk = desk_of([], plain)
            for kind in Fleet(plain).kinds():
                expected = [" ".join([str(first), str(last), *(column or ("dark",))])
                            for first, last, column in sectors(Fleet(plain), kind)]
                self.assertEqual(self.say(desk, f"sectors {kind}"), expected)


class Histories(Saying):
    def test_word_for_word(self):
        plain = points_fleet("tug", "pilot")
        desk = desk_of([], plain)
        self.assertEqual(self.say(desk, "hidden tug"), ["0"])
        self.assertEqual(self.say(desk, "likely"), ["0 tug", "0 pilot"])
        self.say(desk, "sight 0 31 red")
        self.assertEqual(self.say(desk, "hidden tug"), ["0 31"])
        self.say(desk, "sight 1 2 red")
        self.assertEqual(self.say(desk, "hidden pilot"), ["0 31 2"])
        self.say(desk, "sight 0 31")
        self.assertEqual(self.say(desk, "hidden tug"), ["1 31 2"])
        self.assertEqual(self.say(desk, "likely"), ["1 tug", "1 pilot"])
        self.say(desk, "sight 2 6 red")
        self.assertEqual(self.say(desk, "hidden tug"), ["none"])
        self.assertEqual(self.say(desk, "likely"), [])

    def test_likely_by_many(self):
        kinds = (("tug", 3, (("red", 0, 31),) * 3), ("zz", 3, (("red", 0, 31),) * 2), ("a", 3, (("red", 0, 31),) * 2),
                 ("no", 3, (("white", 0, 31),)))
        desk = desk_of([(3, 4, ("red",))], (("red", "white"), kinds))
        self.assertEqual(self.say(desk, "likely"), ["1 zz", "1 a", "2 tug"])

    def test_as_they_are_told(self):
        for seed in range(12):
            plain = HARBOUR if seed % 3 == 0 else some_fleet(seed)
            sights = [(moment % 12, side, column[:seed % 3]) for moment, side, column in
                      some_sights(seed, plain[0], 2)]
            desk, watch = desk_of(sights, plain), watch_of(sights, plain)
            self.assertEqual(self.say(desk, "likely"), rows(likely(watch)))
            for kind in Fleet(plain).kinds():
                told = history(watch, kind)
                expected = "none" if told is None else " ".join([str(number) for number in [told[0], *told[1]]])
                self.assertEqual(self.say(desk, f"hidden {kind}"), [expected])


class Plans(Saying):
    def checked(self, plain, boats, answer):
        """How many looks a plan takes by an answer, which comes surely to each boat's kind."""
        self.assertEqual(len(answer), len(boats))
        ways = {boat: text.split(" ") for boat, text in zip(boats, answer)}
        self.followed(plain, boats, ways, 0)
        return max([len(words) for words in ways.values()]) - 1

    def followed(self, plain, boats, ways, at):
        """Boats that came alike so far look to one side, and part there by what they show, or are of one kind."""
        firsts = {ways[boat][at].split(":")[0] for boat in boats}
        self.assertEqual(len(firsts), 1)
        if ":" not in ways[boats[0]][at]:
            self.assertEqual({kind for kind, _ in boats}, firsts)
            self.assertEqual([ways[boat][at:] for boat in boats], [[boat[0]] for boat in boats])
            return
        for column, part in parts_by_steps(plain, boats, int(firsts.pop())).items():
            words = {ways[boat][at].split(":")[1] for boat in part}
            self.assertEqual(words, {"-".join(column) if column else "dark"})
            self.followed(plain, part, ways, at + 1)

    def test_word_for_word(self):
        desk = desk_of([(0, 0, ("red",))], (("red", "white"), (
            ("one", 3, (("red", 5, 5), ("white", 4, 4))), ("other", 3, (("red", 6, 6), ("red", 7, 7))),
            ("third", 3, (("white", 0, 0), ("red", 8, 8), ("white", 9, 9), ("white", 9, 9))))))
        self.assertEqual(self.say(desk, "steady"), ["one 27", "other 25", "other 26", "third 24"])
        self.assertEqual(self.say(desk, "plan 0"), ["none"])
        self.assertEqual(self.say(desk, "plan 1"), ["none"])
        # To no side all kinds show unlike columns; to the side 1 just two boats show nothing.
        expected = ["1:dark 31:white one", "1:dark 31:red other", "1:red other", "1:white-white third"]
        self.assertEqual(self.say(desk, "plan 2"), expected)
        self.assertEqual(self.say(desk, "plan 3"), expected)

    def test_each_number_of_looks(self):
        for plain, looks in ((points_fleet("tug"), 0), (points_fleet("tug", "pilot"), None), (SMALL, None)):
            desk = desk_of([], plain)
            boats = all_boats(Fleet(plain))
            for most in range(4):
                answer = self.say(desk, f"plan {most}")
                if best_plan(Fleet(plain), boats, most) is None:
                    self.assertEqual(answer, ["none"])
                    self.assertIsNone(looks)
                else:
                    self.assertEqual(self.checked(plain, boats, answer), looks)

    def test_one_kind(self):
        desk = desk_of([(1, 2, ("green",))])
        for most in range(4):
            self.assertEqual(self.say(desk, f"plan {most}"), ["buoy"] * 32)
        self.assertEqual(self.say(desk_of([], points_fleet("tug")), "plan 0"), ["tug"] * 32)

    def test_no_boat(self):
        desk = desk_of([(1, 2, ("green", "green"))])
        self.assertEqual(self.say(desk, "steady"), [])
        for most in range(4):
            self.assertEqual(self.say(desk, f"plan {most}"), ["none"])
        self.assertEqual(self.say(desk, "plan 4"), ["no line"])

    def test_boats_of_many_fleets(self):
        told = set()
        for seed in range(30):
            plain = HARBOUR if seed % 10 == 0 else some_fleet(seed)
            fleet = Fleet(plain)
            kind, course = boats_of(plain, seed, 1)[0]
            sights = [(0, side, seen(fleet, kind, course, side)) for side in (3, 19)[:1 + seed % 2]]
            desk, boats = desk_of(sights, plain), watch_of(sights, plain).steady()
            for most in range(4):
                answer = self.say(desk, f"plan {most}")
                plan = best_plan(fleet, boats, most)
                if plan is None:
                    self.assertEqual(answer, ["none"])
                else:
                    self.assertEqual(self.checked(plain, boats, answer), looks_of(plan))
                    told.add(looks_of(plan))
        self.assertLessEqual({0, 1, 2}, told)


class Lines(Saying):
    def test_no_line(self):
        sights = [(4, 10, ("white", "red", "white"))]
        desk = desk_of(sights)
        for value in NO_LINES:
            with self.subTest(line=value.__class__.__name__):
                self.assertEqual(self.say(desk, value), ["no line"], value.__class__)
        self.assertEqual(desk.watch().sights(), sights)
        self.assertEqual(self.say(desk, "steady"), ["tug 9", "tug 10", "twin 25", "twin 26"])

    def test_no_kind(self):
        desk = desk_of([(1, 2, ("red",))])
        for word in ("x", "boat", "tugs", "TUG", "Tug", "green", "white", "kind", "sight", "dark", "none", "0", "31",
                     "tug,", "-", "~", "steady", "hidden", "tug-twin", "averyveryverylongword"):
            for line in (f"sectors {word}", f"hidden {word}", f"  sectors   {word}  ", f" hidden {word}"):
                self.assertEqual(self.say(desk, line), ["no kind"], line)
        self.assertEqual(desk.watch().sights(), [(1, 2, ("red",))])

    def test_blanks_between_ahead_and_behind(self):
        sights = [(4, 10, ("white", "red", "white"))]
        for line in ("steady", "agree 4", "agree 7", "sectors tug", "hidden tug", "hidden buoy", "likely", "plan 0",
                     "plan 3", "sectors x", "plan 4", "sight 4 11 white red", "sight 4 11"):
            expected = self.say(desk_of(sights), line)
            for between in (" ", "  ", "       "):
                for around in ("", " ", "    "):
                    desk = desk_of(sights)
                    self.assertEqual(self.say(desk, around + line.replace(" ", between)), expected)
                    desk = desk_of(sights)
                    self.assertEqual(self.say(desk, line.replace(" ", between) + around), expected)
                    if line.startswith("sight"):
                        self.assertEqual(len(desk.watch().sights()), 2)


class AskersOwn(Saying):
    LINES = ["steady", "agree 4", "agree 5", "sectors tug", "sectors red", "hidden tug", "hidden buoy", "likely",
             "plan 0", "plan 3", "sectors x", "x"]

    def setUp(self):
        self.sights = [(4, 10, ("white", "red")), (2, 11, ())]
        self.desk = desk_of(self.sights)

    def answers(self, desk):
        return [desk.say(line) for line in self.LINES]

    def test_a_watch_of_the_askers_own(self):
        before = self.answers(self.desk)
        watch = self.desk.watch()
        self.assertIs(type(watch), Watch)
        watch.put((1, 2, ("green",)))
        self.assertEqual(self.answers(self.desk), before)
        self.assertEqual(self.desk.watch().sights(), self.sights)
        self.assertEqual(self.desk.say("sight 9 9 white"), ["done"])
        self.assertEqual(watch.sights(), self.sights + [(1, 2, ("green",))])
        self.assertEqual(self.desk.watch().sights(), self.sights + [(9, 9, ("white",))])

    def test_two_watches_of_one_desk(self):
        one, other = self.desk.watch(), self.desk.watch()
        one.put((1, 2, ("green",)))
        self.assertEqual(other.sights(), self.sights)
        other.put((5, 6, ()))
        self.assertEqual(one.sights(), self.sights + [(1, 2, ("green",))])
        self.assertEqual(one.fleet().plain(), HARBOUR)
        self.assertEqual(one.steady(), watch_of(one.sights()).steady())

    def test_a_watch_that_is_full(self):
        desk = desk_of([(1, 2, ("green",))] * 200)
        with self.assertRaises(Full):
            desk.watch().put((1, 2, ()))
        self.assertEqual(desk.say("sight 1 2"), ["full"])

    def test_lists_that_were_told_may_be_changed(self):
        expected = self.answers(self.desk)
        kept = copy.deepcopy(expected)
        for answer in expected:
            answer.reverse()
            answer.append("more")
            del answer[0]
        self.assertEqual(self.answers(self.desk), kept)
        for line in ("sight 1 2", "sight 1 33", "sectors x"):
            self.desk.say(line).clear()
        self.assertNotEqual(self.desk.say("sight 1 2"), [])
        self.assertEqual(self.desk.say("sight 1 33"), ["no line"])
        self.assertEqual(self.desk.say("sectors x"), ["no kind"])

    def test_asked_again_the_same_is_told(self):
        expected = self.answers(self.desk)
        self.answers(desk_of([], some_fleet(3)))
        lines = list(zip(self.LINES, expected))
        for seed in range(4):
            random.Random(seed).shuffle(lines)
            for desk in (self.desk, desk_of(self.sights)):
                self.assertEqual([desk.say(line) for line, _ in lines], [answer for _, answer in lines])
        # The same sights, told by lines.
        desk = desk_of()
        for line in ("sight 4 10 white red", "sight 2 11"):
            desk.say(line)
        self.assertEqual(self.answers(desk), expected)

    def test_two_desks_by_turns(self):
        one, other = desk_of(), desk_of()
        one.say("sight 1 2 green")
        other.say("sight 1 2 red")
        self.assertEqual(one.watch().sights(), [(1, 2, ("green",))])
        self.assertEqual(other.watch().sights(), [(1, 2, ("red",))])
        self.assertEqual(one.say("likely"), ["0 buoy"])

    def test_a_desk_is_as_its_text(self):
        text = shown(HARBOUR, self.sights)
        desk = Desk("# a harbour\n\n" + text.replace(" ", "   ") + " # the last\n")
        self.assertEqual((desk.watch().fleet().plain(), desk.watch().sights()), read(text))
        self.assertEqual(self.answers(desk), self.answers(self.desk))


if __name__ == "__main__":
    unittest.main()
