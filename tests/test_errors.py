import unittest

from lanternwatch import errors

NAMES = ("BadText", "NoKind", "BadPoint", "BadSight", "Full", "BadMoment",
         "BadBoats", "BadMany", "NoFoe")


class Errors(unittest.TestCase):
    def test_light_error_is_a_value_error(self):
        self.assertEqual(errors.LightError.__bases__, (ValueError,))
        self.assertEqual(errors.LightError.__module__, "lanternwatch.errors")

    def test_each_stands_straight_under_light_error(self):
        for name in NAMES:
            with self.subTest(name):
                error = getattr(errors, name)
                self.assertEqual(error.__name__, name)
                self.assertEqual(error.__module__, "lanternwatch.errors")
                self.assertEqual(error.__bases__, (errors.LightError,))
                self.assertTrue(issubclass(error, ValueError))

    def test_none_is_another(self):
        for name in NAMES:
            for other in NAMES:
                if name != other:
                    with self.subTest(name=name, other=other):
                        self.assertFalse(issubclass(getattr(errors, name), getattr(errors, other)))

    def test_bad_text_has_its_line_from_the_start(self):
        error = errors.BadText(17)
        self.assertEqual(error.line, 17)
        self.assertIs(type(error.line), int)
        self.assertIn("17", str(error))


if __name__ == "__main__":
    unittest.main()
