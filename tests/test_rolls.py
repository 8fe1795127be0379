"""Rolls [10, 11]."""

import itertools
import random
import unittest

from helpers import Case
from turnsandkeys.errors import BadCount, BadName, BadNumber, DoubledName, OtherNames, UnknownName
from turnsandkeys.links import Links
from turnsandkeys.rolls import Roll

OPTIONS = ["sale", "day", "rest"]


def all_ballots(options):
    sizes = range(len(options) + 1)
    return [ballot for size in sizes for ballot in itertools.permutations(options, size)]


class MakingTest(Case):
    def test_counts_add_up(self):
        rows = [(("day",), 4), ((), 10 ** 9), (("day",), 10 ** 9), ((), 1), (("rest", "day"), 0)]
        roll = Roll(OPTIONS, rows)
        self.assertEqual(roll.options, ("sale", "day", "rest"))
        self.assertEqual(list(roll), [((), 10 ** 9 + 1), (("day",), 10 ** 9 + 4)])
        self.assertEqual(roll.total, 2 * 10 ** 9 + 5)
        self.assertEqual(len(roll), 2)

    def test_no_rows(self):
        roll = Roll(("day",))
        self.assertEqual((roll.options, roll.total, len(roll), list(roll)), (("day",), 0, 0, []))
        self.assertIs(() in roll, False)
        self.assertEqual(roll[()], 0)

    def test_order_of_ballots(self):
        options = ["d", "b", "c", "a"]
        ballots = all_ballots(options)
        random.Random(10).shuffle(ballots)
        roll = Roll(options, [(ballot, 1 + at) for at, ballot in enumerate(ballots)])
        expected = sorted(ballots, key=lambda ballot: [options.index(option) for option in ballot])
        self.assertEqual([ballot for ballot, _ in roll], expected)
        self.assertEqual(expected[:4], [(), ("d",), ("d", "b"), ("d", "b", "c")])
        self.assertEqual(len(roll), 65)
        for at, ballot in enumerate(ballots):
            self.assertEqual(roll[ballot], 1 + at)

    def test_iteration_within_an_iteration(self):
        roll = Roll(OPTIONS, [(("day",), 2), ((), 3)])
        rows = [((), 3), (("day",), 2)]
        self.assertEqual([(a, b) for a in roll for b in roll], [(a, b) for a in rows for b in rows])

    def test_parameters(self):
        self.has_parameters(Roll, "options", "rows=()")
        self.has_parameters(Roll.of, "options", "*ballots", "many=1")
        self.assertIsInstance(vars(Roll)["of"], classmethod)
        self.assertEqual(Roll(options=tuple(OPTIONS), rows=(((), 1),)), Roll(OPTIONS, [((), 1)]))

    def test_copies_and_keeps_lists(self):
        options, rows = list(OPTIONS), [(("day",), 2)]
        roll = Roll(options, rows)
        self.assertEqual((options, rows), (OPTIONS, [(("day",), 2)]))
        options.reverse()
        rows.append(((), 9))
        rows[0] = (("day",), 7)
        self.assertEqual(roll, Roll(OPTIONS, [(("day",), 2)]))
        self.assertEqual((roll.options, roll.total), (tuple(OPTIONS), 2))

    def test_wrong_options(self):
        self.assertEqual(Roll(["a", "b", "c", "d"]).options, ("a", "b", "c", "d"))
        for call in (Roll, Roll.of):
            self.fails(BadCount, {"size": 0}, call, [])
            self.fails(BadCount, {"size": 5}, call, ["a", "b", "c", "d", ""])
            self.fails(BadName, {"name": ""}, call, ["a", ""])
            self.fails(DoubledName, {"name": "a"}, call, ["a", "a"])
        self.fails(DoubledName, {"name": "a"}, Roll, ["a", "a"], [(("x",), -1)])

    def test_wrong_rows(self):
        self.fails(UnknownName, {"name": "x"}, Roll, OPTIONS, [(("day", "x", "day"), -1)])
        self.fails(DoubledName, {"name": "day"}, Roll, OPTIONS, [(("day", "day", "x"), -1)])
        self.fails(UnknownName, {"name": ""}, Roll, OPTIONS, [(("",), 1)])
        for many in (-1, 10 ** 9 + 1, 10 ** 59, -(10 ** 59)):
            self.fails(BadNumber, {"number": many}, Roll, OPTIONS, [((), 1), (("day",), many), (("x",), 1)])

    def test_of(self):
        roll = Roll.of(OPTIONS, ("day",), (), ("day",))
        self.assertEqual(roll, Roll(OPTIONS, [(("day",), 2), ((), 1)]))
        self.assertIs(type(roll), Roll)
        self.assertEqual(Roll.of(OPTIONS, ("day",), ("day",), many=10 ** 9)[("day",)], 2 * 10 ** 9)
        self.assertEqual(len(Roll.of(OPTIONS, ("day",), many=0)), 0)
        self.assertEqual(Roll.of(OPTIONS, many=-1), Roll(OPTIONS))

    def test_wrong_of(self):
        self.fails(BadNumber, {"number": -1}, Roll.of, OPTIONS, ("day",), ("x",), many=-1)
        self.fails(UnknownName, {"name": "x"}, Roll.of, OPTIONS, ("x", "x"), many=-1)
        self.fails(DoubledName, {"name": "day"}, Roll.of, OPTIONS, (), ("day", "day"))
        self.fails(BadNumber, {"number": 10 ** 9 + 1}, Roll.of, OPTIONS, (), many=10 ** 9 + 1)
        self.fails(BadCount, {"size": 0}, Roll.of, (), ("x",), many=-1)


class UsingTest(Case):
    def test_in_and_index(self):
        roll = Roll(OPTIONS, [(("day", "rest"), 2), (("rest",), 0)])
        self.assertIs(("day", "rest") in roll, True)
        self.assertEqual(roll[("day", "rest")], 2)
        for ballot in ((), ("day",), ("rest",), ("rest", "day"), ("day", "day"), ("x",), ("day", "rest", "x"), ("",), (1, 2)):
            self.assertIs(ballot in roll, False)
            self.assertEqual(roll[ballot], 0)

    def test_sum(self):
        first = Roll(OPTIONS, [(("day",), 2), ((), 3)])
        second = Roll(OPTIONS, [(("day",), 10 ** 9), (("sale",), 1)])
        kept = (list(first), list(second))
        self.assertEqual(list(first + second), [((), 3), (("sale",), 1), (("day",), 10 ** 9 + 2)])
        self.assertEqual((first + second).total, 10 ** 9 + 6)
        self.assertEqual(first + second, second + first)
        self.assertEqual((list(first), list(second)), kept)
        self.assertEqual(first + Roll(OPTIONS), first)
        self.assertEqual(Roll(OPTIONS) + first, first)
        self.assertIs(type(first + second), Roll)

    def test_sums_above_the_bound_add_up_again(self):
        roll = Roll.of(OPTIONS, ("day",), (), many=10 ** 9)
        for _ in range(200):
            roll = roll + roll
        self.assertEqual(roll[("day",)], 10 ** 9 * 2 ** 200)
        self.assertEqual(roll.total, 10 ** 9 * 2 ** 201)
        self.fails(BadNumber, {"number": roll.total}, Roll, OPTIONS, [((), roll.total)])

    def test_other_names(self):
        roll = Roll(OPTIONS, [(("day",), 2)])
        for options in (OPTIONS[::-1], OPTIONS[:2], [*OPTIONS, "x"], ["sale", "day", "x"]):
            other = Roll(options)
            self.fails(OtherNames, {}, lambda: roll + other)
            self.fails(OtherNames, {}, lambda: other + roll)
            self.assertEqual((list(roll), list(other)), ([(("day",), 2)], []))

    def test_equality(self):
        roll = Roll(OPTIONS, [(("day",), 2), ((), 3)])
        self.assertTrue(roll == Roll(OPTIONS, [((), 3), (("day",), 1), (("sale",), 0), (("day",), 1)]))
        self.assertFalse(roll != Roll(OPTIONS, [(("day",), 2), ((), 3)]))
        self.assertIs(roll == Roll(OPTIONS, [(("day",), 2), ((), 2)]), False)
        self.assertIs(roll == Roll(OPTIONS, [(("day",), 2)]), False)
        self.assertIs(roll == Roll(OPTIONS[::-1], [(("day",), 2), ((), 3)]), False)
        self.assertIs(roll == Roll(["day", "sale"], [(("day",), 2), ((), 3)]), False)
        for other in (None, 5, "roll", list(roll), tuple(roll), Links(OPTIONS)):
            self.assertIs(roll == other, False)


if __name__ == "__main__":
    unittest.main()
