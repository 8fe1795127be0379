"""Steps of habits [47]."""

import unittest

from helpers import Case
from turnsandkeys import steps
from turnsandkeys.errors import BadName, BadNumber
from turnsandkeys.steps import Dearest, Longest, Over, Safest, Step, Wait, Without

PLAIN = [(Longest, "long"), (Dearest, "dear"), (Safest, "safe")]
NUMBERED = [(Over, "over"), (Wait, "wait")]


class StepsTest(Case):
    def test_classes(self):
        for made in (Longest, Dearest, Safest, Over, Without):
            self.assertEqual(made.__bases__, (Step,))
        self.assertEqual((Wait.__bases__, Step.__bases__), ((Over,), (object,)))
        for made in (Longest, Dearest, Safest, Over, Wait, Without):
            self.assertIn("told", vars(made))
            self.assertEqual(made.__module__, steps.__name__)
            self.has_parameters(made.told, "self")
        for made in (Over, Wait):
            self.has_parameters(made, "number")
        self.has_parameters(Without, "name")

    def test_told(self):
        for made, word in PLAIN:
            self.assertEqual(made().told(), word)
        for made, word in NUMBERED:
            for number in range(4):
                self.assertEqual(made(number).told(), f"{word} {number}")
                self.assertEqual(made(number=number).number, number)
        for name in ("ann", "z", "abcdefgh", "long"):
            self.assertEqual(Without(name).told(), f"not {name}")
            self.assertEqual(Without(name=name).name, name)

    def test_numbers(self):
        for made in (Over, Wait):
            self.assertEqual([made(0).number, made(3).number], [0, 3])
            for number in (-1, 4, 10 ** 59, -(10 ** 59)):
                self.fails(BadNumber, {"number": number}, made, number)

    def test_names(self):
        for name in ("", "Ann", "abcdefghi", "a1", "ann ", " ann", "ann, long", "-"):
            self.fails(BadName, {"name": name}, Without, name)

    def test_wait_is_an_over(self):
        self.assertIsInstance(Wait(1), Over)
        self.assertNotIsInstance(Over(1), Wait)


if __name__ == "__main__":
    unittest.main()
