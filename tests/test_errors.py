import unittest

from felltimber import errors

NAMES = (
    "NoLadder NoRest NoGrove NoPlace NoBook NoKind NoRule NoNumber TooGreat NoRise NoFall Endless "
    "NotEndless NoWorths NoDrop NoReach TooLong NoRow NoName"
).split()


class Errors(unittest.TestCase):

    def test_fell_error_stands_right_under_value_error(self):
        self.assertEqual(errors.FellError.__bases__, (ValueError,))

    def test_each_stands_right_under_fell_error(self):
        for name in NAMES:
            with self.subTest(name):
                self.assertEqual(getattr(errors, name).__bases__, (errors.FellError,))

    def test_none_stands_under_another_one(self):
        for name in NAMES:
            self.assertEqual(getattr(errors, name).__subclasses__(), [], name)
        self.assertEqual(sorted(found.__name__ for found in errors.FellError.__subclasses__()), sorted(NAMES))

    def test_kind_is_a_field(self):
        for made in (errors.NoKind("oak"), errors.Endless("oak")):
            self.assertEqual(made.kind, "oak")
            self.assertEqual(vars(made), {"kind": "oak"})

    def test_raised_and_taken_as_fell_error_and_value_error(self):
        for name in NAMES:
            with self.assertRaises(errors.FellError):
                raise getattr(errors, name)("oak")
            with self.assertRaises(ValueError):
                raise getattr(errors, name)("oak")
