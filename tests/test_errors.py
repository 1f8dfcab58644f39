"""The refusals: their names and how they stand under one another."""

import unittest

from chalkcave import errors

NAMES = [
    "NoKind", "NoWay", "NoMark", "NoEntry", "NoHold", "NoChamber",
    "NoChart", "NoCave", "NoHome", "Barred", "Full",
]


class Refusals(unittest.TestCase):
    def test_cave_error_stands_under_value_error(self):
        self.assertTrue(issubclass(errors.CaveError, ValueError))

    def test_all_eleven_stand_under_cave_error(self):
        for name in NAMES:
            with self.subTest(name):
                refusal = getattr(errors, name)
                self.assertTrue(issubclass(refusal, errors.CaveError))
                self.assertIsNot(refusal, errors.CaveError)
                self.assertEqual(refusal.__name__, name)

    def test_none_stands_under_another(self):
        for name in NAMES:
            for other in NAMES:
                if name != other:
                    with self.subTest(name=name, other=other):
                        self.assertFalse(issubclass(getattr(errors, name), getattr(errors, other)))

    def test_each_is_raised_and_caught_as_cave_error(self):
        for name in NAMES:
            with self.subTest(name):
                with self.assertRaises(errors.CaveError):
                    raise getattr(errors, name)("why")

    def test_there_are_no_others(self):
        classes = [thing for thing in vars(errors).values() if isinstance(thing, type)]
        self.assertEqual(sorted(c.__name__ for c in classes), sorted(NAMES + ["CaveError"]))


if __name__ == "__main__":
    unittest.main()
