"""Point 3: which texts are none, and by which line that is told."""

import unittest

from lanternwatch.errors import BadText
from lanternwatch.reading import read

HEAD = "colours red white"
KIND = "kind tug 3"
LAMP = "lamp red 0 10"
SIGHT = "sight 1 2 red"
BODY = [HEAD, KIND, LAMP]
NAMES = ["a", "bb", "ccc", "dddd", "eeeee", "ffffff", "g"]

# Words that are no names.
NO_NAMES = ["abcdefg", "colours", "kind", "lamp", "sight", "Red", "reD", "RED", "r2", "2", "r-d",
            "r_d", "r.", "'r'", "~", "r,", "red:", "lamplamp"]
# Words that write no number, whatever its range.
NO_NUMBERS = ["00", "01", "007", "-1", "-0", "+1", "1.0", "1.", "1_0", "0x1", "1e1", "x", "one",
              "1x", "x1", "1,", "(1)", "--1", "9" * 7, "9" * 5000, "0" * 5000]
TURNS = NO_NUMBERS + ["17", "20", "99", "100"]
POINTS = NO_NUMBERS + ["32", "40", "99", "100"]
MOMENTS = NO_NUMBERS + ["100", "101", "999"]

# Rows of words that begin none, or begin one wrongly.
STRANGE = ["colour red", "Colours red", "COLOURS red", "kinds tug 3", "Kind tug 3", "lamps red 1 2",
           "sights 1 2", "sight: 1 2", "tug", "red", "7", "~", "kindtug 3", "lamp,red,1,2", "; x"]


class Refusals(unittest.TestCase):
    def refused(self, lines, line):
        """The lines are refused by that one: also behind others, also with a fault behind it."""
        ahead = ["", "# a remark", "   ", "  # kind"]
        for rows, number in (
            (lines, line),
            (ahead + lines, line + len(ahead)),
            (lines + ["kind", "\t"], line),
            (lines + ["", "colours red"], line),
        ):
            with self.subTest(rows=[row[:80] for row in rows]):
                with self.assertRaises(BadText) as caught:
                    read("\n".join(rows))
                self.assertEqual(caught.exception.line, number)
                self.assertIs(type(caught.exception.line), int)

    def lacking(self, lines):
        """The lines are none because something lacks behind the last one."""
        for rows in (lines, ["", "# a remark"] + lines, lines + [" ", "# a remark"]):
            with self.subTest(rows=rows):
                with self.assertRaises(BadText) as caught:
                    read("\n".join(rows))
                self.assertEqual(caught.exception.line, len(rows) + 1)


class BadRows(Refusals):
    def test_colours(self):
        rows = ["colours", "colours red red", "colours red white red", "colours " + " ".join(NAMES)]
        rows += [f"colours {name}" for name in NO_NAMES]
        rows += [f"colours red {name} white" for name in NO_NAMES]
        for row in rows:
            self.refused([row, KIND, LAMP], 1)

    def test_kinds(self):
        rows = ["kind", "kind tug", "kind 3", "kind 3 tug", "kind tug 3 3", "kind tug tug 3"]
        rows += [f"kind {name} 3" for name in NO_NAMES]
        rows += [f"kind tug {turn}" for turn in TURNS]
        for row in rows:
            self.refused([HEAD, row, LAMP], 2)

    def test_a_kind_that_is_told_twice(self):
        self.refused(BODY + [KIND, LAMP], 4)
        self.refused(BODY + ["kind tug 4", LAMP], 4)
        self.refused(BODY + ["kind pilot 4", LAMP, "kind tug 5", LAMP], 6)

    def test_lamps(self):
        rows = ["lamp", "lamp red", "lamp red 0", "lamp 0 10", "lamp red 0 10 11", "lamp red 0 10 red",
                "lamp red white 0 10", "lamp 0 10 red", "lamp green 0 10", "lamp tug 0 10"]
        rows += [f"lamp {name} 0 10" for name in NO_NAMES]
        rows += [f"lamp red {point} 10" for point in POINTS]
        rows += [f"lamp red 10 {point}" for point in POINTS]
        for row in rows:
            self.refused([HEAD, KIND, row], 3)
            self.refused(BODY + [row], 4)

    def test_sights(self):
        rows = ["sight", "sight 1", "sight red", "sight 1 red", "sight red 1 2", "sight 1 red 2",
                "sight 1 2 3", "sight 1 2 green", "sight 1 2 red green", "sight 1 2 tug",
                "sight 1 2 red 3", "sight 1 2" + " red" * 7]
        rows += [f"sight 1 2 red {name} white" for name in NO_NAMES]
        rows += [f"sight {moment} 2 red" for moment in MOMENTS]
        rows += [f"sight 1 {side}" for side in POINTS]
        for row in rows:
            self.refused(BODY + [row], 4)
            self.refused(BODY + [SIGHT, row], 5)

    def test_rows_of_no_sort(self):
        for row in STRANGE:
            for many in range(4):
                self.refused((BODY + [SIGHT])[:many] + [row], many + 1)


class BadOrder(Refusals):
    def test_colours_come_first(self):
        for row in (KIND, LAMP, SIGHT, "sight 1 2"):
            self.refused([row], 1)

    def test_colours_come_once(self):
        for lines in ([HEAD], [HEAD, KIND], BODY, BODY + [SIGHT]):
            for row in (HEAD, "colours green"):
                self.refused(lines + [row], len(lines) + 1)

    def test_a_kind_stands_ahead_of_lamps_and_sights(self):
        for row in (LAMP, SIGHT, "sight 1 2"):
            self.refused([HEAD, row], 2)

    def test_a_lamp_stands_behind_each_kind(self):
        for row in ("kind pilot 3", SIGHT, "sight 1 2"):
            self.refused([HEAD, KIND, row], 3)
            self.refused(BODY + ["kind buoy 0", row], 5)

    def test_sights_come_last(self):
        for row in (HEAD, "kind pilot 3", LAMP):
            self.refused(BODY + [SIGHT, row], 5)
            self.refused(BODY + ["sight 1 2", SIGHT, row], 6)


class TooMany(Refusals):
    def test_seven_kinds(self):
        lines = [HEAD]
        for name in NAMES:
            lines += [f"kind {name} 1", LAMP]
        self.refused(lines, 14)

    def test_seven_lamps(self):
        self.refused([HEAD, KIND] + [LAMP] * 7, 9)
        self.refused(BODY + ["kind pilot 1"] + [LAMP] * 7, 11)

    def test_sixty_one_sights(self):
        self.refused(BODY + [SIGHT] * 61, 64)


class Tabs(Refusals):
    def test_a_tab_in_each_line(self):
        lines = BODY + [SIGHT]
        for at, line in enumerate(lines):
            behind = line + " \t"
            within = line.replace(" ", "\t", 1)
            for row in ("\t" + line, line + "\t", behind, within, line + " # \t", line + "#\t"):
                self.refused(lines[:at] + [row] + lines[at + 1:], at + 1)

    def test_a_tab_in_a_line_without_words(self):
        for row in ("\t", " \t ", "#\t", "# a \tremark", "\t# a remark"):
            for at in range(5):
                self.refused((BODY + [SIGHT])[:at] + [row] + (BODY + [SIGHT])[at:], at + 1)

    def test_a_fault_further_up_comes_first(self):
        self.refused([HEAD, "kind tug", "# \t"], 2)
        self.refused(BODY + ["# \t", "kind tug"], 4)


class Lacking(Refusals):
    def test_no_colours(self):
        self.lacking(["# nothing"])
        self.lacking(["", "# nothing"])

    def test_no_kind(self):
        self.lacking([HEAD])

    def test_no_lamp(self):
        self.lacking([HEAD, KIND])
        self.lacking(BODY + ["kind pilot 3"])

    def test_a_line_end_is_followed_by_a_line(self):
        for text, line in (("", 2), ("\n", 3), (HEAD + "\n", 3), (HEAD + "\n" + KIND + "\n\n", 5)):
            with self.assertRaises(BadText) as caught:
                read(text)
            self.assertEqual(caught.exception.line, line)


class NoText(unittest.TestCase):
    def test_other_values(self):
        text = "\n".join(BODY)
        values = [None, 0, 7, True, text.encode(), bytearray(text.encode()), list(BODY), tuple(BODY),
                  [text], (text,), {text: 1}, {text}, object(), str, 1.5, read, BadText(3), b"", [], ()]
        for value in values:
            with self.subTest(value=value):
                with self.assertRaises(BadText) as caught:
                    read(value)
                self.assertEqual(caught.exception.line, 0)
                self.assertIs(type(caught.exception.line), int)


if __name__ == "__main__":
    unittest.main()
