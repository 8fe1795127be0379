"""The least deposit, fee, limit and start that are enough [55]."""

import random
import unittest

from helpers import Case
from making import day_book
from rounds import some_games
from test_games import large_house
from turnsandkeys.errors import BadNumber, TooLarge
from turnsandkeys.games import house_price
from turnsandkeys.houses import House
from turnsandkeys.judging import shown_by_plan, shown_by_table
from turnsandkeys.least import Least, least_deposit, least_fee, least_limit, least_start
from turnsandkeys.pages import Book
from turnsandkeys.papers import Plan, Table, decide
from turnsandkeys.rules import BidRule, TurnRule

MEMBERS = ["ann", "ben"]
DAY = House([TurnRule("day", MEMBERS, limit=1)], day_book())
VOTES = House([TurnRule("day", MEMBERS), TurnRule("hard", MEMBERS, limit=0, start=7)], day_book(), [(("day",), 2)])
CALLS = {"deposit": least_deposit, "fee": least_fee, "limit": least_limit, "start": least_start}


def is_enough(house, price):
    found = house_price(house)
    return found is None or found >= price


class LeastCase(Case):
    def judge(self, house, part, price, most):
        """The number, the table and the plans are those of the numbers tried one by one."""
        found = CALLS[part](house, price, most=most)
        self.assertIs(type(found), Least)
        self.assertIs(type(found.plans), tuple)
        enough = [number for number in range(most + 1) if is_enough(house.changed(**{part: number}), price)]
        number = enough[0] if enough else None
        self.assertEqual(found.number, number)
        if number is None:
            self.assertIsNone(found.table)
        else:
            self.is_paper(found.table, Table, house.changed(**{part: number}), price)
        lesser = list(range(most + 1 if number is None else number))
        if part != "start":
            lesser = lesser[-1:]
        self.assertEqual(len(found.plans), len(lesser))
        for tried, plan in zip(lesser, found.plans):
            self.is_paper(plan, Plan, house.changed(**{part: tried}), price)
        return found

    def is_paper(self, paper, kind, house, price):
        self.assertIs(type(paper), kind)
        expected = decide(house, price - 1)
        self.assertEqual((paper.house, paper.price, paper.rows()), (house, expected.price, expected.rows()))
        if kind is Plan:
            self.assertLess(shown_by_plan(house, paper.rows()), price)
        else:
            shown = shown_by_table(house, paper.rows())
            self.assertTrue(shown is None or shown >= price)


class DepositTest(LeastCase):
    def test_parameters(self):
        self.has_parameters(least_deposit, "house", "price", "*", "most=20")
        self.has_parameters(least_fee, "house", "price", "*", "most=20")
        self.has_parameters(least_limit, "house", "price", "*", "most=3")
        self.has_parameters(least_start, "house", "price", "*", "most=5")
        for call in CALLS.values():
            self.assertEqual(call(house=DAY, price=1, most=0).plans[0].price, 0)
            self.keeps_arguments(call, VOTES, 3, most=2)

    def test_by_hand(self):
        self.assertEqual([least_deposit(DAY, price).number for price in (1, 7, 20, 21)], [1, 7, 20, None])
        found = least_deposit(DAY, 7)
        self.assertEqual((found.table.price, [plan.price for plan in found.plans]), (7, [6]))
        found = least_deposit(DAY, 21)
        self.assertEqual((found.table, [plan.price for plan in found.plans]), (None, [20]))
        # A house that is never broken needs no deposit; one that is broken for nothing gets none.
        found = least_deposit(DAY.changed(limit=None), 10 ** 59)
        self.assertEqual((found.number, found.table.price, found.plans), (0, None, ()))
        found = least_deposit(DAY.changed(limit=0), 1)
        self.assertEqual((found.number, found.table, len(found.plans)), (None, None, 1))

    def test_bounds_of_most(self):
        great = least_deposit(DAY, 10 ** 9, most=10 ** 9)
        self.assertEqual((great.number, great.plans[0].price), (10 ** 9, 10 ** 9 - 1))
        self.assertIsNone(least_deposit(DAY, 10 ** 9 + 1, most=10 ** 9).number)
        self.assertEqual(least_deposit(DAY, 123456789, most=10 ** 9).number, 123456789)
        for most in range(5):
            self.judge(DAY, "deposit", 3, most)

    def test_at_random(self):
        chance = random.Random(550)
        numbers = set()
        for house, _ in some_games(chance, 120, most=25):
            numbers.add(self.judge(house, "deposit", chance.choice([1, 2, 3, 4, 8]), chance.randint(0, 6)).number)
        self.assertLessEqual({None, 0, 1, 2}, numbers)


class FeeTest(LeastCase):
    def test_by_hand(self):
        # Under day the rule hard needs three ballots so as to come into force.
        self.assertEqual(VOTES.vote_price("day", "hard"), 3)
        self.assertEqual([least_fee(VOTES, price).number for price in (1, 3, 4, 60, 61)], [1, 1, 2, 20, None])
        self.assertEqual(least_fee(VOTES, 3 * 10 ** 9, most=10 ** 9).number, 10 ** 9)
        self.assertEqual(least_fee(VOTES, 3 * 10 ** 9, most=10 ** 9).plans[0].price, 3 * (10 ** 9 - 1))
        self.assertIsNone(least_fee(DAY, 1, most=10 ** 9).number)

    def test_at_random(self):
        chance = random.Random(551)
        numbers = set()
        for house, _ in some_games(chance, 50, most=25):
            numbers.add(self.judge(house, "fee", chance.randint(1, 9), chance.randint(0, 6)).number)
        self.assertLessEqual({None, 0, 1, 2}, numbers)


class LimitTest(LeastCase):
    def test_by_hand(self):
        house = DAY.changed(deposit=5)
        self.assertEqual([house_price(house.changed(limit=limit)) for limit in range(4)], [0, 5, 10, 15])
        self.assertEqual([least_limit(house, price).number for price in (1, 5, 6, 15, 16)], [1, 1, 2, 3, None])
        found = least_limit(house, 6)
        self.assertEqual((found.table.price, [plan.price for plan in found.plans]), (10, [5]))
        self.assertEqual([plan.price for plan in least_limit(house, 16).plans], [15])
        self.assertIsNone(least_limit(house, 6, most=1).number)

    def test_at_random(self):
        chance = random.Random(552)
        numbers = set()
        for house, _ in some_games(chance, 25, most=12, rules=2, pages=2):
            try:
                numbers.add(self.judge(house, "limit", chance.randint(1, 8), chance.randint(0, 3)).number)
            except TooLarge:
                continue
        self.assertLessEqual({None, 0, 1}, numbers)

    def test_smaller_limits_are_tried_first(self):
        # With the limit 3 the game is too large, but a lesser limit is enough.
        house = large_house("p", "s")
        self.fails(TooLarge, {}, house_price, house)
        with self.assertRaises(TooLarge):
            least_limit(house, 10 ** 9)
        self.assertIsNone(least_limit(house, 10 ** 9, most=2).number)


class StartTest(LeastCase):
    def test_greater_need_not_be_enough(self):
        # A few more ballots for the soft rule itself keep the hard rule out; but many for the hard rule keep it in.
        numbers = []
        chance = random.Random(553)
        for house, _ in some_games(chance, 60, most=20):
            price = chance.randint(1, 6)
            found = self.judge(house, "start", price, 5)
            numbers.append(found.number)
            if found.number is not None and found.number < 5:
                numbers.append(is_enough(house.changed(start=5), price))
        self.assertIn(None, numbers)
        self.assertIn(0, numbers)
        self.assertTrue({1, 2, 3} & set(numbers))

    def test_by_hand(self):
        house = House([TurnRule("day", MEMBERS), TurnRule("hard", MEMBERS, limit=0)], day_book())
        prices = [house_price(house.changed(start=number)) for number in range(6)]
        self.assertEqual(prices, [1, 2, 3, 4, 5, 6])
        found = least_start(house, 3)
        self.assertEqual((found.number, found.table.price, [plan.price for plan in found.plans]), (2, 3, [1, 2]))
        found = least_start(house, 9)
        self.assertEqual((found.number, found.table, [plan.price for plan in found.plans]), (None, None, prices))
        self.assertEqual(least_start(house, 9, most=20).number, 8)
        self.assertEqual(least_start(house, 1).plans, ())


class WrongTest(Case):
    def test_checks_in_order(self):
        large = large_house("p", "s")
        for part, bound in (("deposit", 10 ** 9), ("fee", 10 ** 9), ("limit", 3), ("start", 20)):
            call = CALLS[part]
            for price in (0, -1, -(10 ** 59)):
                self.fails(BadNumber, {"number": price}, call, DAY, price)
                self.fails(BadNumber, {"number": price}, call, large, price, most=-7)
            for most in (-1, bound + 1, 10 ** 59):
                self.fails(BadNumber, {"number": most}, call, DAY, 1, most=most)
                self.fails(BadNumber, {"number": most}, call, large, 1, most=most)
            self.assertEqual(call(DAY.changed(limit=None) if part != "limit" else DAY, 10 ** 59, most=0).number, {
                "limit": None
            }.get(part, 0))
        for part in ("deposit", "fee", "start"):
            self.fails(TooLarge, {}, CALLS[part], large, 1)
            self.fails(TooLarge, {}, CALLS[part], large, 1, most=0)

    def test_most_at_its_bounds(self):
        never = DAY.changed(limit=None)
        for part, bound in (("deposit", 10 ** 9), ("fee", 10 ** 9), ("start", 20)):
            for most in (0, bound):
                self.assertEqual(CALLS[part](never, 5, most=most).number, 0)
        self.assertIsNone(least_limit(DAY, 5, most=3).number)
        # A rule with bids is broken for nothing, whatever its start is.
        house = House([BidRule("sale", MEMBERS, limit=0)], Book(MEMBERS, [("mon", [("ann", 1), ("ben", 0)], [])], ["mon"]))
        self.assertEqual(len(least_start(house, 1, most=20).plans), 21)


if __name__ == "__main__":
    unittest.main()
