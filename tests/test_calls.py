"""Calls that keep wishes [54]."""

import itertools
import random
import unittest

from helpers import Case
from keeping import all_takers, least, round_price, some_rounds
from making import some_house
from turnsandkeys.calls import Calls, cheapest_calls, keeps_wishes, latest_taking
from turnsandkeys.errors import BadCount, BadNumber, BadRow, UnknownName
from turnsandkeys.houses import House
from turnsandkeys.pages import Book
from turnsandkeys.rules import TurnRule

MEMBERS = ["ann", "ben", "cid"]
DAY, TUE, WED = ("mon", "day"), ("tue", "day"), ("wed", "day")
PAGES = [("mon", [("ann", 5), ("ben", 3)], ["mon"]), ("tue", [], []), ("wed", [("ann", 0)], [])]
BOOK = Book(MEMBERS, PAGES, ["mon"], home=["wed"])
HOUSE = House([TurnRule("day", MEMBERS, deposit=4, links=[("ann", "cid", 2)]), TurnRule("hard", MEMBERS, barred=["ann"])], BOOK)


def stay_price(house, rounds, member, first):
    """The least price of a stay of the member along all these rounds from this one on, among all stays."""
    found = [("", 0)]
    for told in rounds[first - 1:]:
        longer = []
        for before, price in found:
            for takers in all_takers(house):
                for keeper in house.members:
                    more = round_price(house, told, before, takers, keeper)
                    if more is not None:
                        longer.append((keeper, price + more))
        found = [(keeper, least([price for other, price in longer if other == keeper])) for keeper in dict(longer)]
    return least([price for keeper, price in found if keeper == member])


def taking_by_hand(house, rounds, wish):
    member, end, price = wish
    takings = [0]
    for first in range(1, end + 1):
        stay = stay_price(house, rounds[:end], member, first)
        if stay is not None and stay < price:
            takings.append(first)
    return takings[-1]


def some_wishes(chance, house, rounds, most=5):
    many = chance.randint(0, most) if rounds else 0
    return [(chance.choice(house.members), chance.randint(1, len(rounds)), chance.randint(0, 14)) for _ in range(many)]


def all_calls(rounds):
    return [calls for size in range(len(rounds) + 1) for calls in itertools.combinations(range(1, len(rounds) + 1), size)]


class TakingTest(Case):
    def test_parameters(self):
        self.has_parameters(latest_taking, "house", "rounds", "wish")
        self.has_parameters(keeps_wishes, "house", "rounds", "wishes", "calls")
        self.has_parameters(cheapest_calls, "house", "rounds", "wishes", "costs")
        self.assertEqual(latest_taking(house=HOUSE, rounds=(DAY,), wish=("ann", 1, 5)), 1)

    def test_windows(self):
        rounds = [DAY, DAY, TUE, TUE]
        # In the rounds 3 and 4 nobody gets the key from the hook.
        self.assertEqual(latest_taking(HOUSE, rounds, ("ann", 1, 5)), 1)
        self.assertEqual(latest_taking(HOUSE, rounds, ("ann", 2, 5)), 2)
        self.assertEqual(latest_taking(HOUSE, rounds, ("ann", 3, 9)), 2)
        self.assertEqual(latest_taking(HOUSE, rounds, ("ann", 4, 13)), 2)
        self.assertEqual(latest_taking(HOUSE, rounds, ("cid", 4, 15)), 2)
        # A stay costs just the price of the wish, which is not less.
        self.assertEqual(latest_taking(HOUSE, rounds, ("ann", 4, 12)), 0)
        self.assertEqual(latest_taking(HOUSE, rounds, ("cid", 4, 14)), 0)
        self.assertEqual(latest_taking(HOUSE, rounds, ("ann", 1, 4)), 0)
        self.assertEqual(latest_taking(HOUSE, rounds, ("ann", 1, 0)), 0)
        self.assertEqual(latest_taking(HOUSE, rounds, ("ann", 1, 10 ** 59)), 1)
        # On a home page everything is back; a rule that bars a keeper ends a stay, too.
        self.assertEqual(latest_taking(HOUSE, [DAY, WED, TUE], ("ann", 3, 99)), 0)
        self.assertEqual(latest_taking(HOUSE, [DAY, WED], ("ann", 2, 99)), 0)
        self.assertEqual(latest_taking(HOUSE, [DAY, ("tue", "hard"), TUE], ("ann", 3, 99)), 0)
        self.assertEqual(latest_taking(HOUSE, [DAY, ("tue", "hard"), TUE], ("ben", 3, 99)), 1)

    def test_free_stays(self):
        house = HOUSE.changed(deposit=0)
        self.assertEqual(latest_taking(house, [DAY, TUE], ("ann", 2, 1)), 1)
        self.assertEqual(latest_taking(house, [DAY, TUE], ("ann", 2, 0)), 0)

    def test_against_all_stays(self):
        chance = random.Random(540)
        seen = set()
        for _ in range(300):
            house = some_house(chance).changed(deposit=chance.randint(0, 2))
            rounds = some_rounds(chance, house, chance.randint(1, 5))
            for wish in some_wishes(chance, house, rounds):
                taking = latest_taking(house, rounds, wish)
                self.assertEqual(taking, taking_by_hand(house, rounds, wish))
                seen.add((taking, wish[1]))
        self.assertLessEqual({(0, 5), (5, 5), (2, 5), (3, 4), (1, 1), (1, 3)}, seen)

    def test_errors_in_order(self):
        rounds = [DAY, TUE]
        bad = [DAY, ("x", "day")]
        self.fails(BadRow, {"place": 1}, latest_taking, HOUSE, bad, ("x", 9, -1))
        for member in ("x", "", "mon", "day"):
            self.fails(UnknownName, {"name": member}, latest_taking, HOUSE, rounds, (member, 9, -1))
        for number in (0, 3, -1, 10 ** 59):
            self.fails(BadNumber, {"number": number}, latest_taking, HOUSE, rounds, ("ann", number, -5))
        for price in (-1, -(10 ** 59)):
            self.fails(BadNumber, {"number": price}, latest_taking, HOUSE, rounds, ("ann", 2, price))
        self.fails(BadNumber, {"number": 1}, latest_taking, HOUSE, [], ("ann", 1, 3))


class KeepsTest(Case):
    def test_by_hand(self):
        rounds = [DAY, DAY, TUE, TUE]
        wishes = [("ann", 4, 13), ("ben", 1, 9)]
        for calls, kept in (
            ([], False), ([1], False), ([4], False), ([1, 2], True), ([1, 3], True), ((4, 1), True), ([1, 1], False),
            ([1, 2, 3, 4], True), ([2, 3, 4], False),
        ):
            self.assertIs(keeps_wishes(HOUSE, rounds, wishes, calls), kept)
        self.assertIs(keeps_wishes(house=HOUSE, rounds=rounds, wishes=[], calls=[]), True)
        self.assertIs(keeps_wishes(HOUSE, [], [], []), True)
        self.assertIs(keeps_wishes(HOUSE, rounds, [("ann", 4, 12), ("ann", 1, 0)], []), True)
        self.keeps_arguments(keeps_wishes, HOUSE, rounds, wishes, [1, 3])

    def test_errors_in_order(self):
        right = ("ann", 1, 3)
        for call, last in ((keeps_wishes, [9]), (cheapest_calls, [])):
            self.fails(BadRow, {"place": 0}, call, HOUSE, [("mon", "x"), DAY], [("x", 9, -1)], last)
            self.fails(UnknownName, {"name": "x"}, call, HOUSE, [DAY], [right, ("x", 9, -1), ("y", 1, 1)], last)
            self.fails(BadNumber, {"number": 9}, call, HOUSE, [DAY], [right, ("ben", 9, -1), ("y", 1, 1)], last)
            self.fails(BadNumber, {"number": -2}, call, HOUSE, [DAY], [right, ("ben", 1, -2), ("y", 9, 1)], last)
        for number in (0, 3, -1, 10 ** 59):
            self.fails(BadNumber, {"number": number}, keeps_wishes, HOUSE, [DAY, TUE], [right], [1, number, -7])
        self.fails(BadNumber, {"number": 1}, keeps_wishes, HOUSE, [], [], [1])
        for size in (0, 1, 3):
            self.fails(BadCount, {"size": size}, cheapest_calls, HOUSE, [DAY, TUE], [right], [-1] * size)
        for cost in (-1, 10 ** 9 + 1, -(10 ** 59)):
            self.fails(BadNumber, {"number": cost}, cheapest_calls, HOUSE, [DAY] * 3, [right], [10 ** 9, cost, -5])


class CheapestTest(Case):
    def judge(self, house, rounds, wishes, costs):
        """The calls keep the wishes, and the prices show that none cost less."""
        found = cheapest_calls(house, rounds, wishes, costs)
        self.assertIs(type(found), Calls)
        self.assertEqual((type(found.calls), type(found.prices)), (tuple, tuple))
        self.assertEqual(list(found.calls), sorted(set(found.calls)))
        self.assertTrue(keeps_wishes(house, rounds, wishes, found.calls))
        self.assertEqual(found.total, sum(costs[number - 1] for number in found.calls))
        windows = [(latest_taking(house, rounds, wish), wish[1]) for wish in wishes]
        self.assertEqual(len(found.prices), len(wishes))
        self.assertTrue(all(price >= 0 for price in found.prices))
        self.assertTrue(all(price == 0 for (first, _), price in zip(windows, found.prices) if first == 0))
        for number, cost in enumerate(costs, 1):
            sums = [price for (first, last), price in zip(windows, found.prices) if 0 < first <= number <= last]
            self.assertLessEqual(sum(sums), cost)
        self.assertEqual(sum(found.prices), found.total)
        return found

    def test_by_hand(self):
        rounds = [DAY, DAY, TUE, TUE]
        wishes = [("ann", 4, 13), ("ben", 1, 9), ("ann", 3, 99)]
        found = self.judge(HOUSE, rounds, wishes, [7, 5, 4, 2])
        self.assertEqual((found.calls, found.total), ((1, 3), 11))
        found = self.judge(HOUSE, rounds, wishes, [7, 1, 4, 2])
        self.assertEqual((found.calls, found.total), ((1, 2), 8))
        found = cheapest_calls(house=HOUSE, rounds=tuple(rounds), wishes=tuple(wishes), costs=(0, 0, 0, 0))
        self.assertEqual((found.total, found.prices), (0, (0, 0, 0)))
        self.keeps_arguments(cheapest_calls, HOUSE, rounds, wishes, [7, 1, 4, 2])

    def test_no_wishes(self):
        for rounds in ([], [DAY], [DAY, TUE]):
            found = self.judge(HOUSE, rounds, [], [5] * len(rounds))
            self.assertEqual((found.calls, found.total, found.prices), ((), 0, ()))
        found = self.judge(HOUSE, [DAY], [("ann", 1, 0), ("ann", 1, 4)], [10 ** 9])
        self.assertEqual((found.calls, found.total, found.prices), ((), 0, (0, 0)))

    def test_great_costs(self):
        found = self.judge(HOUSE, [DAY] * 3, [("ann", 2, 9), ("ben", 3, 9)], [10 ** 9] * 3)
        self.assertEqual((found.calls, found.total), ((2, 3), 2 * 10 ** 9))
        found = self.judge(HOUSE, [DAY, TUE, TUE], [("ann", 2, 99), ("ben", 3, 99)], [10 ** 9, 0, 10 ** 9])
        self.assertEqual((found.calls, found.total), ((2,), 0))

    def test_against_all_calls(self):
        chance = random.Random(541)
        totals = set()
        for _ in range(150):
            house = some_house(chance).changed(deposit=chance.choice([0, 1, 4]))
            rounds = some_rounds(chance, house, chance.randint(0, 6))
            wishes = some_wishes(chance, house, rounds, 8)
            costs = [chance.choice([0, 1, 2, 3, 9]) for _ in rounds]
            found = self.judge(house, rounds, wishes, costs)
            keeping = [calls for calls in all_calls(rounds) if keeps_wishes(house, rounds, wishes, calls)]
            self.assertEqual(found.total, min(sum(costs[number - 1] for number in calls) for calls in keeping))
            totals.add(len(found.calls))
        self.assertLessEqual({0, 1, 2, 3}, totals)

    def test_60_rounds_and_40_wishes(self):
        chance = random.Random(542)
        pages = [("mon", [("ann", 0)], []), ("tue", [], [])]
        house = House([TurnRule("day", MEMBERS, links=[("ann", "ben", 1), ("ben", "cid", 1)])], Book(MEMBERS, pages, ["mon"]))
        for _ in range(5):
            rounds = [chance.choice([DAY, TUE, TUE, TUE, TUE]) for _ in range(60)]
            wishes = [(chance.choice(MEMBERS), chance.randint(1, 60), chance.randint(0, 3)) for _ in range(40)]
            self.judge(house, rounds, wishes, [chance.randint(0, 20) for _ in rounds])


if __name__ == "__main__":
    unittest.main()
