"""Points 2 and 4: shown, a text that is read as the fleet and the sights."""

import copy
import random
import unittest

from handed import HARBOUR, NAMES, some_fleet, some_sights
from lanternwatch.fleets import Fleet
from lanternwatch.reading import read
from lanternwatch.showing import shown
from lanternwatch.watches import Watch

SMALL = (("a",), (("b", 0, (("a", 0, 0),)),))
# Six colours, six kinds, six lamps of each.
LARGE = (
    tuple(NAMES),
    tuple([(kind, turn, tuple([(colour, turn, 31 - turn) for colour in NAMES]))
           for turn, kind in enumerate(NAMES)]),
)
SIXTY = [(99 - at, at // 2, tuple(NAMES[:at % 7])) for at in range(60)]


class Showing(unittest.TestCase):
    def plainly(self, text):
        """A text of rows alone, parted by single blanks."""
        self.assertIs(type(text), str)
        self.assertNotIn("#", text)
        self.assertNotIn("\t", text)
        self.assertNotIn("\r", text)
        for line in text.split("\n"):
            self.assertNotEqual(line, "")
            self.assertEqual(line, " ".join(line.split()))

    def back(self, plain, sights):
        """What is shown is plain, has as many lines as rows, and is read as what was shown."""
        text = shown(plain, sights)
        self.plainly(text)
        rows = 1 + len(plain[1]) + sum([len(row[2]) for row in plain[1]]) + len(sights)
        self.assertEqual(len(text.split("\n")), rows)
        answer = read(text)
        self.assertEqual(answer, (plain, list(sights)))
        self.assertIs(type(answer), tuple)
        self.assertIs(type(answer[0]), tuple)
        self.assertIs(type(answer[1]), list)
        for sight in answer[1]:
            self.assertEqual([type(part) for part in sight], [int, int, tuple])
        return text


class Texts(Showing):
    def test_word_for_word(self):
        plain = (("red", "a"), (("tug", 3, (("a", 27, 5), ("a", 27, 5))), ("red", 16, (("red", 0, 31),))))
        sights = [(4, 31, ("a", "a", "red")), (0, 0, ())]
        rows = ["colours red a", "kind tug 3", "lamp a 27 5", "lamp a 27 5", "kind red 16",
                "lamp red 0 31", "sight 4 31 a a red", "sight 0 0"]
        self.assertEqual(shown(plain, sights), "\n".join(rows))

    def test_the_smallest(self):
        self.assertEqual(self.back(SMALL, []), "colours a\nkind b 0\nlamp a 0 0")

    def test_one_of_each_and_six(self):
        for colours in (1, 6):
            for kinds in (1, 6):
                for lamps in (1, 6):
                    rows = [(kind, 16, tuple([(NAMES[colours - 1], 31, at) for at in range(lamps)]))
                            for kind in NAMES[:kinds]]
                    plain = (tuple(NAMES[:colours]), tuple(rows))
                    for sights in ([], [(0, 31, (NAMES[colours - 1],))]):
                        self.back(plain, sights)

    def test_no_sight_and_sixty(self):
        self.back(LARGE, [])
        self.back(LARGE, SIXTY)
        self.back(SMALL, [(at, at % 32, ("a",) * (at % 7)) for at in range(60)])

    def test_columns_of_none_to_six_colours(self):
        for many in range(7):
            for at in range(1, 7):
                sights = [(5, 6, tuple(NAMES[:many])), (7, 8, (NAMES[at - 1],) * many)]
                self.back(LARGE, sights)

    def test_each_number(self):
        for number in range(100):
            point, turn = number % 32, number % 17
            plain = (("a",), (("b", turn, (("a", point, 31 - point),)),))
            self.back(plain, [(number, point, ("a",))])

    def test_many_fleets(self):
        for seed in range(200):
            plain = some_fleet(seed)
            self.back(plain, some_sights(seed, plain[0], seed % 61))

    def test_sights_that_a_watch_tells(self):
        watch = Watch(Fleet(HARBOUR))
        sights = some_sights(1, HARBOUR[0], 20)
        for sight in sights:
            watch.put(sight)
        self.assertEqual(read(shown(watch.fleet().plain(), watch.sights())), (HARBOUR, sights))


class PutIn(Showing):
    def with_more(self, text, chance):
        """The text with blanks, remarks and empty lines put in."""
        rows = []
        for line in text.split("\n"):
            for _ in range(chance.randint(0, 2)):
                rows.append(chance.choice(["", " ", "   ", "#", "# colours a", "  ## kind #"]))
            words = [word + " " * chance.randint(0, 3) for word in line.split(" ")]
            rows.append(" " * chance.randint(0, 3) + " ".join(words) + chance.choice(["", "#", " # sight", "#1"]))
        return "\n".join(rows + [""] * chance.randint(0, 2))

    def test_the_same_is_read(self):
        for seed in range(60):
            plain = some_fleet(seed)
            sights = some_sights(seed, plain[0], seed)
            text = self.with_more(shown(plain, sights), random.Random(seed))
            self.assertEqual(read(text), (plain, sights))
            self.assertEqual(shown(*read(text)), shown(plain, sights))

    def test_at_the_edges(self):
        for plain, sights in ((SMALL, []), (LARGE, SIXTY)):
            for seed in range(5):
                text = self.with_more(shown(plain, sights), random.Random(seed))
                self.assertEqual(read(text), (plain, sights))


class AskersOwn(Showing):
    def test_what_was_handed_in_stays(self):
        plain, sights = copy.deepcopy(LARGE), copy.deepcopy(SIXTY)
        first = shown(plain, sights)
        self.assertEqual((plain, sights), (LARGE, SIXTY))
        self.assertEqual(shown(plain, sights), first)
        self.assertEqual(shown(LARGE, tuple(SIXTY)), first)

    def test_nothing_is_kept(self):
        sights = list(SIXTY)
        first = shown(LARGE, sights)
        sights.clear()
        self.assertEqual(read(first), (LARGE, SIXTY))
        self.assertEqual(read(shown(LARGE, sights)), (LARGE, []))
        self.assertEqual(read(shown(SMALL, [])), (SMALL, []))
        self.assertEqual(shown(LARGE, SIXTY), first)


if __name__ == "__main__":
    unittest.main()
