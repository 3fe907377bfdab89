import unittest

from oneleash import errors

NAMES = ["NoRatio", "NoLine", "NoPlace", "NoWay", "NoWalk", "NoFence", "NoSquare", "NoLines", "NoText", "NoName",
         "Twice", "TooMany", "NoRow", "NoDeed"]


class Refusals(unittest.TestCase):
    def test_the_root_of_all_stands_straight_under_value_error(self):
        self.assertEqual(errors.LeashError.__bases__, (ValueError,))

    def test_each_stands_straight_under_leash_error(self):
        self.assertEqual(len(NAMES), 14)
        for name in NAMES:
            with self.subTest(name=name):
                self.assertEqual(getattr(errors, name).__bases__, (errors.LeashError,))
                self.assertEqual(getattr(errors, name).__name__, name)

    def test_none_stands_under_another(self):
        for name in NAMES:
            for other in NAMES:
                under = issubclass(getattr(errors, name), getattr(errors, other))
                self.assertEqual(under, name == other, (name, other))

    def test_all_are_made_without_anything(self):
        for name in ["LeashError"] + NAMES:
            with self.subTest(name=name):
                made = getattr(errors, name)()
                self.assertIsInstance(made, errors.LeashError)
                self.assertIsInstance(made, ValueError)

    def test_each_is_taken_by_its_own_name_and_by_those_above(self):
        for name in NAMES:
            kind = getattr(errors, name)
            for above in (kind, errors.LeashError, ValueError):
                with self.assertRaises(above):
                    raise kind()


if __name__ == "__main__":
    unittest.main()
