"""Tolls [5, 6]."""

import itertools
import random
import time
import unittest

from helpers import Case
from turnsandkeys.errors import BadCount, BadName, BadNumber, DoubledName, OtherNames, UnknownName
from turnsandkeys.links import Links
from turnsandkeys.tolls import Tolls

SIX = ["", "ann", "ben", "cid", "dot", "eve"]


def lesser(price, other):
    return other if price is None or (other is not None and other < price) else price


def by_hand(first, second):
    """The product, pair by pair as the point says it."""
    prices = {}
    for giver, taker in itertools.product(first.names, first.names):
        best = None
        for middle in first.names:
            parts = (first[giver, middle], second[middle, taker])
            if None not in parts:
                best = lesser(best, sum(parts))
        prices[giver, taker] = best
    return prices


def prices_of(tolls):
    return {pair: tolls[pair] for pair in itertools.product(tolls.names, tolls.names)}


def some_tolls(chance, names):
    pairs = itertools.product(names, names)
    return Tolls(names, [(*pair, chance.choice([0, 1, 2, 7, 10 ** 59])) for pair in pairs if chance.random() < 0.4])


class MakingTest(Case):
    def test_least_entry_counts(self):
        tolls = Tolls(["ann", "ben"], [("ann", "ben", 5), ("ann", "ben", 3), ("ann", "ben", 4), ("ben", "ben", 0)])
        self.assertEqual(tolls["ann", "ben"], 3)
        self.assertEqual(tolls["ben", "ben"], 0)
        self.assertIsNone(tolls["ben", "ann"])
        self.assertIsNone(tolls["ann", "ann"])

    def test_hook_and_no_entries(self):
        tolls = Tolls(("ann", ""))
        self.assertEqual(tolls.names, ("ann", ""))
        self.assertIsNone(tolls["", "ann"])
        self.assertEqual(tolls.entries(), [])
        self.assertEqual(Tolls([""], [("", "", 4)])["", ""], 4)

    def test_by_name(self):
        tolls = Tolls(names=["ann"], entries=(("ann", "ann", 2),))
        self.assertEqual(tolls["ann", "ann"], 2)
        self.has_parameters(Tolls, "names", "entries=()")
        self.has_parameters(Tolls.same, "names")
        self.has_parameters(tolls, "prices")
        self.has_parameters(tolls.power, "times")
        self.has_parameters(tolls.closed)
        self.has_parameters(tolls.entries)
        self.assertIsInstance(vars(Tolls)["same"], staticmethod)

    def test_copies_and_keeps_lists(self):
        names, entries = ["ann", "ben"], [("ann", "ben", 5)]
        tolls = Tolls(names, entries)
        self.assertEqual((names, entries), (["ann", "ben"], [("ann", "ben", 5)]))
        names.append("cid")
        entries[0] = ("ann", "ben", 1)
        entries.append(("ben", "ann", 1))
        self.assertEqual(tolls.names, ("ann", "ben"))
        self.assertEqual(tolls.entries(), [("ann", "ben", 5)])

    def test_wrong_names(self):
        self.fails(BadCount, {"size": 0}, Tolls, [])
        self.fails(BadCount, {"size": 7}, Tolls, [*SIX, "fay"])
        self.fails(BadCount, {"size": 8}, Tolls, ["A"] * 8, [("x", "y", -1)])
        self.fails(BadName, {"name": "abcdefghi"}, Tolls, ["", "abcdefghi"])
        self.fails(DoubledName, {"name": ""}, Tolls, ["", "", "A"])
        self.fails(DoubledName, {"name": "ann"}, Tolls, ["ann", "ann"], [("x", "y", -1)])
        for call in (Tolls, Tolls.same):
            self.fails(BadCount, {"size": 0}, call, ())
            self.fails(BadName, {"name": "Ann"}, call, ["Ann"])
            self.fails(DoubledName, {"name": "b"}, call, ["b", "a", "b"])

    def test_wrong_entries(self):
        names = ["ann", "ben"]
        self.fails(UnknownName, {"name": "x"}, Tolls, names, [("x", "y", -1)])
        self.fails(UnknownName, {"name": "y"}, Tolls, names, [("ann", "y", -1)])
        self.fails(UnknownName, {"name": ""}, Tolls, names, [("ann", "", -1)])
        self.fails(BadNumber, {"number": -1}, Tolls, names, [("ann", "ben", 0), ("ann", "ben", -1), ("x", "y", -2)])
        self.fails(BadNumber, {"number": -10 ** 59}, Tolls, names, [("ann", "ann", -10 ** 59)])


class UsingTest(Case):
    def test_index(self):
        tolls = Tolls(["ann", "ben"])
        self.fails(UnknownName, {"name": "x"}, lambda: tolls["x", "y"])
        self.fails(UnknownName, {"name": "y"}, lambda: tolls["ann", "y"])
        self.fails(UnknownName, {"name": ""}, lambda: tolls["", "ann"])

    def test_equality(self):
        tolls = Tolls(["ann", "ben"], [("ann", "ben", 5)])
        self.assertTrue(tolls == Tolls(("ann", "ben"), [("ann", "ben", 9), ("ann", "ben", 5)]))
        self.assertFalse(tolls != Tolls(("ann", "ben"), [("ann", "ben", 5)]))
        self.assertIs(tolls == Tolls(["ben", "ann"], [("ann", "ben", 5)]), False)
        self.assertIs(tolls == Tolls(["ann", "bob"], [("ann", "bob", 5)]), False)
        self.assertIs(tolls == Tolls(["ann", "ben"], [("ann", "ben", 6)]), False)
        self.assertIs(tolls == Tolls(["ann", "ben"]), False)
        for other in (None, 5, "tolls", [], ("ann", "ben"), Links(["ann", "ben"], [("ann", "ben", 5)])):
            self.assertIs(tolls == other, False)

    def test_same(self):
        same = Tolls.same(["", "ann"])
        self.assertEqual(same, Tolls(["", "ann"], [("", "", 0), ("ann", "ann", 0)]))
        self.assertIsNone(same["", "ann"])

    def test_product_is_first_one_then_the_other(self):
        first = Tolls(["a", "b"], [("a", "b", 2)])
        second = Tolls(["a", "b"], [("b", "a", 3), ("b", "b", 4)])
        self.assertEqual((first * second).entries(), [("a", "a", 5), ("a", "b", 6)])
        self.assertEqual((second * first).entries(), [("b", "b", 5)])

    def test_operators_at_random(self):
        chance = random.Random(1)
        for _ in range(60):
            names = SIX[: chance.randint(1, 6)]
            first, second = some_tolls(chance, names), some_tolls(chance, names)
            kept = (prices_of(first), prices_of(second))
            self.assertEqual(prices_of(first * second), by_hand(first, second))
            both = {pair: lesser(first[pair], second[pair]) for pair in kept[0]}
            self.assertEqual(prices_of(first | second), both)
            self.assertEqual((prices_of(first), prices_of(second)), kept)
            self.assertEqual(Tolls(first.names, first.entries()), first)

    def test_other_names(self):
        tolls = Tolls(["a", "b"], [("a", "b", 4)])
        for names in (["b", "a"], ["a"], ["a", "b", "c"], ["a", "c"]):
            other = Tolls(names)
            self.fails(OtherNames, {}, lambda: tolls * other)
            self.fails(OtherNames, {}, lambda: other * tolls)
            self.fails(OtherNames, {}, lambda: tolls | other)
            self.fails(OtherNames, {}, lambda: other | tolls)
            self.assertEqual((tolls.entries(), other.entries()), ([("a", "b", 4)], []))

    def test_call(self):
        tolls = Tolls(["a", "b", "c"], [("a", "b", 2), ("b", "b", 1), ("b", "c", 10 ** 59)])
        prices = [5, None, 0]
        self.assertEqual(tolls(prices), [None, 7, None])
        self.assertEqual(prices, [5, None, 0])
        self.assertEqual(tolls(prices=(5, 5, 5)), [None, 6, 5 + 10 ** 59])
        self.assertEqual(tolls([None, None, None]), [None, None, None])
        self.is_new_list(lambda: tolls([5, None, 0]))
        self.fails(BadCount, {"size": 2}, tolls, [5, 5])
        self.fails(BadCount, {"size": 4}, tolls, (5, 5, 5, 5))
        self.fails(BadCount, {"size": 0}, tolls, [])

    def test_call_goes_along_with_the_product(self):
        chance = random.Random(2)
        for _ in range(40):
            first, second = some_tolls(chance, SIX), some_tolls(chance, SIX)
            prices = [chance.choice([None, 0, 3, 10 ** 30]) for _ in SIX]
            self.assertEqual((first * second)(prices), second(first(prices)))

    def test_entries_in_order(self):
        tolls = Tolls(["b", "a"], [("a", "a", 1), ("a", "b", 2), ("b", "a", 3), ("b", "b", 0)])
        self.assertEqual(tolls.entries(), [("b", "b", 0), ("b", "a", 3), ("a", "b", 2), ("a", "a", 1)])
        self.is_new_list(tolls.entries)


class PowersTest(Case):
    def test_small_powers(self):
        chance = random.Random(3)
        for _ in range(20):
            tolls = some_tolls(chance, SIX[: chance.randint(1, 6)])
            product = Tolls.same(tolls.names)
            for times in range(12):
                self.assertEqual(tolls.power(times), product)
                product = product * tolls

    def test_closed(self):
        chance = random.Random(4)
        for _ in range(30):
            tolls = some_tolls(chance, SIX[: chance.randint(1, 6)])
            expected = Tolls.same(tolls.names)
            for times in range(1, 9):
                expected = expected | tolls.power(times)
            self.assertEqual(tolls.closed(), expected)

    def test_closed_over_five_steps(self):
        tolls = Tolls(SIX, [(giver, taker, 1) for giver, taker in zip(SIX, SIX[1:])])
        self.assertEqual(tolls.closed()["", "eve"], 5)
        self.assertIsNone(tolls.closed()["eve", ""])
        self.assertEqual(tolls.closed()["eve", "eve"], 0)

    def test_wrong_times(self):
        tolls = Tolls(["a"], [("a", "a", 1)])
        self.fails(BadNumber, {"number": -1}, tolls.power, -1)
        self.fails(BadNumber, {"number": 10 ** 30 + 1}, tolls.power, times=10 ** 30 + 1)
        self.assertEqual(tolls.power(10 ** 30)["a", "a"], 10 ** 30)

    def test_great_power_of_a_ring(self):
        ring = Tolls(SIX, [(SIX[at], SIX[(at + 1) % 6], at) for at in range(6)])
        far = ring.power(10 ** 30)
        # 10 ** 30 steps are 10 ** 30 // 6 times around and 4 steps more.
        self.assertEqual(far["", "dot"], 10 ** 30 // 6 * 15 + 0 + 1 + 2 + 3)
        self.assertIsNone(far["", "eve"])

    def test_short_time_with_long_tolls(self):
        chance = random.Random(5)
        entries = [(giver, taker, chance.randint(10 ** 59, 10 ** 60 - 1)) for giver in SIX for taker in SIX]
        tolls = Tolls(SIX, entries)
        begun = time.perf_counter()
        far = tolls.power(10 ** 30)
        again = Tolls(SIX, far.entries()).power(10 ** 30)
        tolls.closed()
        self.assertLess(time.perf_counter() - begun, 5)
        self.assertEqual(far * tolls, tolls * far)
        self.assertGreaterEqual(min(price for _, _, price in again.entries()), 10 ** 118)

    def test_numbers_of_a_thousand_digits(self):
        tolls = Tolls(["a", "b"], [("a", "b", 10 ** 999), ("b", "a", 1)])
        self.assertEqual((tolls * tolls)["a", "a"], 10 ** 999 + 1)
        self.assertEqual(tolls([0, 10 ** 999]), [10 ** 999 + 1, 10 ** 999])


if __name__ == "__main__":
    unittest.main()
