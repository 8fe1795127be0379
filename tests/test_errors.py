"""The error classes of the interface, and the rule that links them."""

import inspect
import unittest

from turnsandkeys import errors
from turnsandkeys.errors import HouseError, Refused

UNDER_HOUSE = {
    "BadName": ["name"],
    "DoubledName": ["name"],
    "UnknownName": ["name"],
    "UnknownPage": ["name"],
    "BadNumber": ["number"],
    "BadCount": ["size"],
    "OtherNames": [],
    "NoLink": ["number"],
    "BadLot": ["lot"],
    "BadBook": ["part", "place"],
    "BadText": ["line"],
    "BadStanding": ["standing"],
    "NoMove": ["move"],
    "NoDeed": ["deed"],
    "TooLarge": [],
    "BadTable": ["place", "why"],
    "BadPlan": ["place", "why"],
    "NotFull": [],
    "BadStep": ["place"],
    "BadRow": ["place"],
    "BadHolding": ["place"],
    "BadCommand": ["line"],
}
UNDER_REFUSED = ["DeskOver", "MoveWaits", "NoMoveWaits", "PagesFollow", "NothingToUndo", "NothingToRedo"]
WORTHS = ["pages", 3]


class ErrorsTest(unittest.TestCase):
    def test_bases(self):
        self.assertEqual(HouseError.__bases__, (ValueError,))
        self.assertEqual(Refused.__bases__, (HouseError,))
        for word in UNDER_HOUSE:
            self.assertEqual(getattr(errors, word).__bases__, (HouseError,), word)
        for word in UNDER_REFUSED:
            self.assertEqual(getattr(errors, word).__bases__, (Refused,), word)

    def test_there_are_no_others(self):
        found = {word for word, thing in vars(errors).items() if inspect.isclass(thing)}
        self.assertEqual(found, {"HouseError", "Refused", *UNDER_HOUSE, *UNDER_REFUSED})

    def test_attributes(self):
        for word, attributes in UNDER_HOUSE.items():
            worths = WORTHS[: len(attributes)]
            told = dict(zip(attributes, worths))
            self.assertEqual(vars(getattr(errors, word)(*worths)), told, word)
            self.assertEqual(vars(getattr(errors, word)(**told)), told, word)
        for word in UNDER_REFUSED:
            self.assertEqual(vars(getattr(errors, word)()), {}, word)

    def test_caught_as_value_errors(self):
        for word, attributes in UNDER_HOUSE.items():
            with self.assertRaises(ValueError):
                raise getattr(errors, word)(*WORTHS[: len(attributes)])

    def test_long_numbers_and_tuples_can_be_told(self):
        for number in (10 ** 60, -(10 ** 1000)):
            self.assertEqual(errors.BadNumber(number).number, number)
            self.assertEqual(errors.NoLink(number).number, number)
        standing = ("mon", "day", "", (0, 10 ** 60))
        self.assertEqual(errors.BadStanding(standing).standing, standing)
        self.assertTrue(str(errors.BadStanding(standing)))


if __name__ == "__main__":
    unittest.main()
