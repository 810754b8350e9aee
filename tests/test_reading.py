"""Points 2 and 4, and what point 1 says of read."""

import unittest

from lanternwatch.reading import read

HEAD = "colours red white"
KIND = "kind tug 3"
LAMP = "lamp red 0 10"
BODY = [HEAD, KIND, LAMP]
PLAIN = (("red", "white"), (("tug", 3, (("red", 0, 10),)),))
NAMES = ["a", "bb", "ccc", "dddd", "eeeee", "ffffff"]


def told(*lines):
    return read("\n".join(lines))


class Whole(unittest.TestCase):
    def test_a_whole_text(self):
        text = """# The harbour at dusk
colours red green white

kind tug 3   # it turns slowly
lamp white 27 5
lamp white 27 5
lamp red 0 10
   kind   pilot 16
lamp green 31 30
sight 4 31 white white red
sight 0 0
# nothing more"""
        plain = (
            ("red", "green", "white"),
            (
                ("tug", 3, (("white", 27, 5), ("white", 27, 5), ("red", 0, 10))),
                ("pilot", 16, (("green", 31, 30),)),
            ),
        )
        sights = [(4, 31, ("white", "white", "red")), (0, 0, ())]
        self.assertEqual(read(text), (plain, sights))

    def test_the_kinds_of_values(self):
        answer = told(*BODY, "sight 5 6 red")
        self.assertIs(type(answer), tuple)
        plain, sights = answer
        self.assertIs(type(plain), tuple)
        colours, kinds = plain
        self.assertIs(type(colours), tuple)
        self.assertIs(type(kinds), tuple)
        self.assertIs(type(kinds[0]), tuple)
        kind, turn, lamps = kinds[0]
        self.assertEqual([type(kind), type(turn), type(lamps)], [str, int, tuple])
        self.assertIs(type(lamps[0]), tuple)
        self.assertEqual([type(part) for part in lamps[0]], [str, int, int])
        self.assertIs(type(sights), list)
        self.assertIs(type(sights[0]), tuple)
        self.assertEqual([type(part) for part in sights[0]], [int, int, tuple])
        self.assertIs(type(sights[0][2][0]), str)

    def test_the_smallest_text(self):
        plain = (("a",), (("b", 0, (("a", 0, 0),)),))
        self.assertEqual(read("colours a\nkind b 0\nlamp a 0 0"), (plain, []))

    def test_the_order_of_rows_is_kept(self):
        (colours, kinds), sights = told(
            "colours z a m", "kind y 1", "lamp m 3 4", "lamp a 1 2", "kind b 2", "lamp z 5 6",
            "sight 9 1 a m", "sight 2 1 m a", "sight 9 1 a m",
        )
        self.assertEqual(colours, ("z", "a", "m"))
        self.assertEqual(kinds, (("y", 1, (("m", 3, 4), ("a", 1, 2))), ("b", 2, (("z", 5, 6),))))
        self.assertEqual(sights, [(9, 1, ("a", "m")), (2, 1, ("m", "a")), (9, 1, ("a", "m"))])


class Blanks(unittest.TestCase):
    def test_remarks(self):
        rows = ["#", "# a remark", HEAD + "# one", "#kind x", KIND + " # two # three",
                "   # four", LAMP + "#5", "#lamp red 0 10"]
        self.assertEqual(told(*rows), (PLAIN, []))

    def test_a_remark_ends_a_word(self):
        plain = (("re",), (("tu", 1, (("re", 0, 10),)),))
        rows = ["colours re#d white", "kind tu 1#6", "lamp re 0 10#lamp red 0 11", "sight 1 2#3 re"]
        self.assertEqual(told(*rows), (plain, [(1, 2, ())]))

    def test_a_remark_of_all_signs(self):
        signs = "".join([chr(code) for code in range(32, 127) if chr(code) != "%"])
        self.assertEqual(told(HEAD, "#" + signs, KIND + "#" + signs, LAMP), (PLAIN, []))

    def test_empty_lines(self):
        rows = ["", "   ", HEAD, "", "", KIND, " ", LAMP, "     ", ""]
        self.assertEqual(told(*rows), (PLAIN, []))

    def test_a_line_end_at_the_end(self):
        self.assertEqual(told(*BODY, ""), (PLAIN, []))
        self.assertEqual(told(*BODY, "sight 1 2", ""), (PLAIN, [(1, 2, ())]))

    def test_blanks_ahead_behind_and_between(self):
        rows = ["  colours  red   white ", " kind    tug  3  ", "lamp red  0 10   ",
                "   sight   7   8    red  white "]
        self.assertEqual(told(*rows), (PLAIN, [(7, 8, ("red", "white"))]))


class HowMany(unittest.TestCase):
    def test_one_colour_and_six(self):
        for many in (1, 6):
            (colours, _), _ = told("colours " + " ".join(NAMES[:many]), KIND, "lamp a 1 2")
            self.assertEqual(colours, tuple(NAMES[:many]))

    def test_one_kind_and_six(self):
        for many in range(1, 7):
            rows = [HEAD]
            for at, name in enumerate(NAMES[:many]):
                rows += [f"kind {name} {at}", f"lamp red {at} {at + 9}"]
            (_, kinds), _ = told(*rows)
            expected = [(name, at, (("red", at, at + 9),)) for at, name in enumerate(NAMES[:many])]
            self.assertEqual(kinds, tuple(expected))

    def test_one_lamp_and_six(self):
        for many in range(1, 7):
            (_, kinds), _ = told(HEAD, KIND, *[f"lamp white {at} 31" for at in range(many)])
            self.assertEqual(kinds[0][2], tuple([("white", at, 31) for at in range(many)]))

    def test_six_lamps_of_each_of_six_kinds(self):
        rows = [HEAD]
        for name in NAMES:
            rows += [f"kind {name} 0"] + ["lamp red 1 2"] * 6
        (_, kinds), _ = told(*rows)
        self.assertEqual([len(row[2]) for row in kinds], [6] * 6)

    def test_no_sight_and_sixty(self):
        self.assertEqual(told(*BODY)[1], [])
        rows = [f"sight {at} {at // 2} red" for at in range(60)]
        self.assertEqual(told(*BODY, *rows)[1], [(at, at // 2, ("red",)) for at in range(60)])

    def test_sights_with_none_to_six_colours(self):
        for many in range(7):
            column = ("red", "white", "white", "red", "red", "white")[:many]
            sights = told(*BODY, "sight 1 2 " + " ".join(column))[1]
            self.assertEqual(sights, [(1, 2, column)])


class Names(unittest.TestCase):
    def test_names_of_one_to_six_letters(self):
        for name in NAMES + ["z", "azazaz", "colour", "kinds", "lamps", "sights", "dark", "none"]:
            (colours, kinds), sights = told(
                f"colours {name}", f"kind {name} 1", f"lamp {name} 2 3", f"sight 4 5 {name}"
            )
            self.assertEqual(colours, (name,))
            self.assertEqual(kinds, ((name, 1, ((name, 2, 3),)),))
            self.assertEqual(sights, [(4, 5, (name,))])

    def test_each_small_letter(self):
        for letter in "abcdefghijklmnopqrstuvwxyz":
            self.assertEqual(told(f"colours {letter}", KIND, f"lamp {letter} 1 2")[0][0], (letter,))

    def test_a_kind_may_have_the_name_of_any_colour(self):
        (colours, kinds), _ = told(
            "colours red white", "kind white 1", "lamp red 2 3", "kind red 1", "lamp white 2 3"
        )
        self.assertEqual(colours, ("red", "white"))
        self.assertEqual([row[0] for row in kinds], ["white", "red"])


class Numbers(unittest.TestCase):
    def test_each_turn(self):
        for turn in range(17):
            self.assertEqual(told(HEAD, f"kind tug {turn}", LAMP)[0][1][0][1], turn)

    def test_each_point_of_a_lamp(self):
        for point in range(32):
            lamps = told(HEAD, KIND, f"lamp red {point} 0", f"lamp red 0 {point}")[0][1][0][2]
            self.assertEqual(lamps, (("red", point, 0), ("red", 0, point)))

    def test_each_side(self):
        for side in range(32):
            self.assertEqual(told(*BODY, f"sight 9 {side} red")[1], [(9, side, ("red",))])

    def test_each_moment(self):
        for moment in range(100):
            self.assertEqual(told(*BODY, f"sight {moment} 9 red")[1], [(moment, 9, ("red",))])


class AskersOwn(unittest.TestCase):
    def test_what_was_told_may_be_changed(self):
        text = "\n".join(BODY + ["sight 1 2 red"])
        expected = (PLAIN, [(1, 2, ("red",))])
        sights = read(text)[1]
        sights.append("more")
        del sights[0]
        self.assertEqual(read(text), expected)
        self.assertEqual(read("".join(list(text))), expected)

    def test_a_refusal_changes_nothing(self):
        text = "\n".join(BODY + ["sight 1 2 red"])
        before = read(text)
        for bad in (text + "\nkind", text + "\n\t", HEAD, "", None, ["colours"]):
            with self.assertRaises(ValueError):
                read(bad)
        self.assertEqual(read(text), before)
        self.assertEqual(before, (PLAIN, [(1, 2, ("red",))]))


if __name__ == "__main__":
    unittest.main()
