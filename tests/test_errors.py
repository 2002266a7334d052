"""Point [5]: the errors, each of its own class, with its attribute."""

import unittest

from boughwebs import errors

PLAIN = ("BadBar BadDouble BadFour BadJoining BadKind BadLeast BadLoft BadMaps BadPart BadPlace BadPoint BadPoly "
         "BadPrices BadPrime BadProbe BadRow BadSplit BadTable BadTally BadWeights NotFour NotGood NotLine NotPair "
         "NotRound NotSo NotStraight NothingDone OtherNet").split()
TOLD = {"BadBars": "at", "BadJournal": "at", "BadNet": "part", "BadNumber": "part", "BadPairKind": "at",
        "BadText": "at", "BadWeb": "part", "BadWhole": "part", "TooMany": "most"}


class Odd:
    """A value that cannot be told or compared."""

    def __repr__(self):
        raise RuntimeError

    def __eq__(self, other):
        raise RuntimeError


class ErrorsTest(unittest.TestCase):

    def made(self):
        return [getattr(errors, name)("some message") for name in PLAIN + list(TOLD)]

    def test_there_are_just_these(self):
        self.assertEqual(len(PLAIN) + len(TOLD), 38)
        found = [name for name, thing in vars(errors).items() if isinstance(thing, type)]
        self.assertEqual(sorted(found), sorted(PLAIN + list(TOLD) + ["WebError"]))

    def test_each_is_of_its_own_class_alone(self):
        self.assertEqual(errors.WebError.__bases__, (ValueError,))
        for error in self.made():
            self.assertEqual(type(error).__bases__, (errors.WebError,))
            self.assertEqual(type(error).__module__, "boughwebs.errors")
            for other in self.made():
                self.assertEqual(isinstance(error, type(other)), type(error) is type(other))

    def test_attributes_of_any_value(self):
        for name, attribute in TOLD.items():
            for value in (None, 0, -3, "net", "", (1, 2), [3], {}, True, b"x", 1.5, 10 ** 6000, Odd()):
                made = getattr(errors, name)
                self.assertIs(getattr(made(value), attribute), value)
                error = made(**{attribute: value})
                self.assertIs(getattr(error, attribute), value)
                self.assertIsInstance(error, ValueError)
                self.assertIsInstance(str(error), str)

    def test_raised_and_caught(self):
        for name in PLAIN:
            with self.assertRaises(errors.WebError) as caught:
                raise getattr(errors, name)("told so")
            self.assertEqual(str(caught.exception), "told so")
        for name, attribute in TOLD.items():
            with self.assertRaises(ValueError) as caught:
                raise getattr(errors, name)(7)
            self.assertEqual(getattr(caught.exception, attribute), 7)

    def test_web_error_itself(self):
        self.assertEqual(str(errors.WebError("told so")), "told so")


if __name__ == "__main__":
    unittest.main()
