"""Counting [12]."""

import random
import unittest

from ballots import all_ballots, some_options, some_roll, table_by_hand
from helpers import Case
from turnsandkeys.counts import Count, count, top
from turnsandkeys.rolls import Roll


class TopTest(Case):
    def test_top(self):
        self.has_parameters(top, "ballot", "remaining")
        self.assertEqual(top(("a", "b"), ["b", "a"]), "a")
        self.assertEqual(top(("a", "b"), ("b", "c")), "b")
        self.assertEqual(top(ballot=("a", "b", "c"), remaining=["c"]), "c")
        self.assertIsNone(top(("a", "b"), ["c"]))
        self.assertIsNone(top((), ["c"]))
        self.assertIsNone(top(("a",), []))
        self.assertIsNone(top((), ()))

    def test_lists_stay(self):
        remaining = ["b", "a"]
        top(("a",), remaining)
        self.assertEqual(remaining, ["b", "a"])


class CountTest(Case):
    def test_kinds(self):
        self.has_parameters(count, "roll")
        counted = count(roll=Roll(["a", "b"], [(("b",), 1)]))
        self.assertIs(type(counted), Count)
        self.assertEqual(counted.order, ("a",))
        self.assertEqual(counted.winner, "b")
        self.assertEqual(counted.table, ((("a", "b"), (0, 1), 0, "a"), (("b",), (1,), 0, None)))

    def test_ties_leave_from_the_end(self):
        counted = count(Roll(["c", "a", "b"]))
        self.assertEqual((counted.order, counted.winner), (("b", "a"), "c"))
        counted = count(Roll(["c", "a", "b"], [(("a",), 2), (("b",), 1), (("c",), 1)]))
        self.assertEqual(counted.order[0], "b")
        counted = count(Roll(["c", "a", "b"], [(("a",), 1), (("b",), 2), (("c",), 1)]))
        self.assertEqual(counted.order[0], "a")

    def test_one_option(self):
        counted = count(Roll(["a"], [((), 3), (("a",), 2)]))
        self.assertEqual((counted.order, counted.winner, counted.table), ((), "a", ((("a",), (2,), 3, None),)))

    def test_no_ballots(self):
        counted = count(Roll(["a", "b"]))
        self.assertEqual(counted.table, ((("a", "b"), (0, 0), 0, "b"), (("a",), (0,), 0, None)))

    def test_spent_ballots(self):
        counted = count(Roll(["a", "b", "c"], [(("c",), 1), (("b",), 2), (("a",), 3), ((), 4)]))
        self.assertEqual([row[2] for row in counted.table], [4, 5, 7])

    def test_at_random_ballot_by_ballot(self):
        chance = random.Random(11)
        for _ in range(400):
            roll = some_roll(chance, some_options(chance), most=8)
            table = table_by_hand(roll)
            counted = count(roll)
            self.assertEqual(counted.table, table)
            self.assertEqual(counted.order, tuple(row[3] for row in table[:-1]))
            self.assertEqual(counted.winner, table[-1][0][0])
            self.assertIs(type(counted.order), tuple)
            self.assertTrue(all(type(row) is type(row[0]) is type(row[1]) is tuple for row in counted.table))

    def test_great_counts(self):
        options = ["a", "b", "c", "d"]
        roll = Roll(options, [(ballot, 10 ** 9 - at) for at, ballot in enumerate(all_ballots(options))])
        counted = count(roll + roll)
        self.assertEqual(sum(counted.table[0][1]) + counted.table[0][2], 2 * roll.total)


if __name__ == "__main__":
    unittest.main()
