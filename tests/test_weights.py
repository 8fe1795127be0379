"""Weights [16]."""

import random
import unittest

from ballots import all_ballots, all_orders, order_by_hand, some_options, some_roll
from helpers import Case
from turnsandkeys.errors import BadNumber
from turnsandkeys.lacks import lack_table
from turnsandkeys.rolls import Roll
from turnsandkeys.weights import ballot_value, chain_weights, due, greatest_value, roll_value

OPTIONS = ("a", "b", "c")
ORDER = ("b", "a")
WEIGHTS = [(1, "a", 2), (2, "c", 5), (1, "a", 1), (1, "c", 0)]


def value_by_hand(ballot, order, weights):
    total = 0
    for at, option, weight in weights:
        wanted = [name for name in ballot if name not in order[: at - 1]]
        if wanted and wanted[0] == option:
            total += weight
        if wanted and wanted[0] == order[at - 1]:
            total -= weight
    return total


def some_weights(chance, options, order):
    rows = []
    for _ in range(chance.randint(0, 5)):
        if order:
            at = chance.randint(1, len(order))
            option = chance.choice([name for name in options if name not in order[:at]])
            rows.append((at, option, chance.choice([0, 1, 2, 10 ** 59])))
    return rows


class ValuesTest(Case):
    def test_parameters(self):
        self.has_parameters(ballot_value, "ballot", "order", "weights")
        self.has_parameters(roll_value, "roll", "order", "weights")
        self.has_parameters(greatest_value, "options", "order", "weights")
        self.has_parameters(due, "options", "order", "weights")
        self.has_parameters(chain_weights, "roll", "order", "at")

    def test_values(self):
        expected = {(): 0, ("a",): 3 - 5, ("b",): -3, ("c",): 5, ("b", "a"): -3 - 5, ("b", "c"): -3 + 5, ("a", "c"): -2}
        for ballot, value in expected.items():
            self.assertEqual(ballot_value(ballot, ORDER, WEIGHTS), value)
            self.assertEqual(ballot_value(ballot=ballot, order=ORDER, weights=tuple(WEIGHTS)), value)
        roll = Roll(OPTIONS, [(("a",), 10), (("b", "c"), 3), ((), 7)])
        self.assertEqual(roll_value(roll, ORDER, WEIGHTS), -20 + 6)
        self.assertEqual(greatest_value(OPTIONS, ORDER, WEIGHTS), 5)
        self.assertEqual(due(OPTIONS, ORDER, WEIGHTS), 5)
        self.assertEqual(due(["c", "b", "a"], ORDER, WEIGHTS), 3)

    def test_no_weights(self):
        roll = Roll(OPTIONS, [(("a",), 10)])
        self.assertEqual(ballot_value(("a",), ORDER, []), 0)
        self.assertEqual(roll_value(roll, (), ()), 0)
        self.assertEqual(greatest_value(list(OPTIONS), (), []), 0)
        self.assertEqual(due(OPTIONS, (), ()), 0)

    def test_greatest_value_is_at_least_that_of_the_blank_ballot(self):
        self.assertEqual(greatest_value(("a",), (), []), 0)
        self.assertEqual(greatest_value(OPTIONS, ("a",), [(1, "b", 0)]), 0)

    def test_at_random(self):
        chance = random.Random(15)
        for _ in range(300):
            roll = some_roll(chance, some_options(chance), most=6)
            order = chance.choice(all_orders(roll.options))
            weights = some_weights(chance, roll.options, order)
            kept = list(weights)
            values = {ballot: value_by_hand(ballot, order, weights) for ballot in all_ballots(roll.options)}
            for ballot, value in values.items():
                self.assertEqual(ballot_value(ballot, order, weights), value)
            self.assertEqual(greatest_value(roll.options, order, weights), max(values.values()))
            self.assertEqual(roll_value(roll, order, weights), sum(many * values[ballot] for ballot, many in roll))
            if order_by_hand(roll)[: len(order)] == order:
                self.assertGreaterEqual(roll_value(roll, order, weights), due(roll.options, order, weights))
            self.assertEqual(weights, kept)


class ChainTest(Case):
    def looked_at(self, roll, order):
        table = lack_table(roll, order)
        for at in range(1, len(order) + 1):
            weights = chain_weights(roll, order, at)
            self.assertIs(type(weights), tuple)
            for row in weights:
                self.assertIs(type(row), tuple)
                self.assertTrue(1 <= row[0] <= at)
                self.assertIn(row[1], roll.options)
                self.assertNotIn(row[1], order[: row[0]])
                self.assertGreaterEqual(row[2], 0)
            self.assertLessEqual(max(value_by_hand(b, order, weights) for b in all_ballots(roll.options)), 1)
            value = sum(many * value_by_hand(ballot, order, weights) for ballot, many in roll)
            self.assertEqual(due(roll.options, order, weights) - value, sum(table[at - 1]))

    def test_every_order_and_round(self):
        chance = random.Random(16)
        for _ in range(120):
            roll = some_roll(chance, some_options(chance), most=7, worth=9)
            for order in all_orders(roll.options):
                self.looked_at(roll, order)

    def test_great_counts(self):
        chance = random.Random(17)
        options = ["a", "b", "c", "d"]
        for _ in range(20):
            roll = Roll(options, [(ballot, chance.randint(0, 10 ** 9)) for ballot in all_ballots(options)])
            for order in all_orders(options):
                self.looked_at(roll + roll, order)

    def test_checks(self):
        roll = Roll(OPTIONS, [(("a",), 1)])
        self.assertEqual(type(chain_weights(roll=roll, order=("a",), at=1)), tuple)
        for at in (0, -1, 3, 10 ** 59):
            self.fails(BadNumber, {"number": at}, chain_weights, roll, ORDER, at)
        self.fails(BadNumber, {"number": 1}, chain_weights, roll, (), 1)
        self.fails(BadNumber, {"number": 0}, chain_weights, roll, (), 0)


if __name__ == "__main__":
    unittest.main()
