"""The errors: their names, where they stand, and what they are made of."""

import unittest

from plainmoment import errors

TOLD = ("NoRow NoProgram NoProcedure NoSpot NoInputs NoMoment NoCell NoValue NoState NoRun NoChanges NoStretch "
        "NoMade NoStop NoVariable NoTape NoCount NoCondition NoEdit NoLanding NoLooks NoMenu NoHand NoCommand "
        "NoRoad NoWish NoStore NothingBack BadText NoLine NoTerm NoLabel NoValues NoPlaces NoSetting").split()


class Errors(unittest.TestCase):
    def test_each_stands_directly_under_the_common_one(self):
        self.assertEqual(errors.MomentError.__bases__, (ValueError,))
        for name in TOLD:
            self.assertEqual(getattr(errors, name).__bases__, (errors.MomentError,), name)

    def test_too_many_is_an_overflow_error(self):
        self.assertEqual(errors.TooMany.__bases__, (OverflowError,))
        self.assertEqual(errors.TooMany(600).most, 600)
        self.assertEqual(errors.TooMany(most=10).most, 10)
        self.assertNotIsInstance(errors.TooMany(7), errors.MomentError)

    def test_each_is_made_of_one_value(self):
        for name in TOLD:
            kind = getattr(errors, name)
            value = ["x"]
            self.assertIs(kind(value).told, value, name)
            self.assertIs(kind(told=value).told, value, name)
            for wrong in ((), (1, 2)):
                with self.assertRaises(TypeError):
                    kind(*wrong)

    def test_all_are_defined_in_their_file(self):
        for name in [*TOLD, "MomentError", "TooMany"]:
            self.assertEqual(getattr(errors, name).__module__, "plainmoment.errors")


if __name__ == "__main__":
    unittest.main()
