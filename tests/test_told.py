"""Told rows: lendings along them, and what they cost [50]."""

import random
import unittest

from helpers import Case
from making import day_book, some_house
from rows import all_lendings, some_row
from turnsandkeys.errors import BadRow
from turnsandkeys.houses import House
from turnsandkeys.pages import Book
from turnsandkeys.rules import BidRule, TurnRule
from turnsandkeys.told import lasting, lendings, row_price

MEMBERS = ["ann", "ben"]
DAY = House([TurnRule("day", MEMBERS, limit=1, deposit=3)], day_book())
ON, LATE = ("mon", "day", False), ("mon", "day", True)


class LendingsTest(Case):
    def test_parameters(self):
        for call in (lendings, lasting, row_price):
            self.has_parameters(call, "house", "row")
        self.assertEqual(lendings(house=DAY, row=(ON,)), ["ann"])
        self.assertEqual((lasting(house=DAY, row=(ON,)), row_price(house=DAY, row=(LATE, ON))), (1, 3))
        self.is_new_list(lambda: lendings(DAY, [ON, ON]))
        for call in (lendings, lasting, row_price):
            self.keeps_arguments(call, DAY, [ON, LATE, ON])

    def test_no_rounds(self):
        self.assertEqual((lendings(DAY, []), lasting(DAY, []), row_price(DAY, [])), ([], 0, 0))
        self.assertEqual(lendings(DAY, ()), [])

    def test_by_hand(self):
        self.assertEqual(lendings(DAY, [ON] * 4), ["ann", "ben", "ann", "ben"])
        # Who keeps the key late has it in the next round, too, and the other one waits twice.
        self.assertIsNone(lendings(DAY, [LATE, ON]))
        self.assertEqual((lasting(DAY, [LATE, ON]), lasting(DAY, [LATE])), (1, 1))
        self.assertEqual(lendings(DAY, [LATE]), ["ann"])
        self.assertEqual(lendings(DAY, [ON, LATE]), ["ann", "ben"])
        self.assertEqual(lasting(DAY, [ON, LATE, ON, ON]), 2)
        free = DAY.changed(limit=None)
        self.assertEqual(lendings(free, [LATE] * 3), ["ann", "", ""])
        wide = DAY.changed(limit=2)
        self.assertEqual(lendings(wide, [LATE, ON, ON]), ["ann", "", "ben"])
        self.assertEqual(lendings(wide, [LATE, LATE]), ["ann", ""])
        self.assertIsNone(lendings(wide, [LATE, LATE, ON]))

    def test_40_rounds(self):
        self.assertEqual(lendings(DAY, [ON] * 40), MEMBERS * 20)
        self.assertEqual((lasting(DAY, [ON] * 40), row_price(DAY, [ON] * 40)), (40, 0))
        self.assertEqual(lasting(DAY, [ON] * 20 + [LATE] + [ON] * 19), 21)
        self.assertEqual(row_price(DAY, [LATE] * 40), 120)
        four = ["a", "b", "c", "d"]
        page = ("p", [(member, 0) for member in four], ["p"])
        house = House([TurnRule("day", four, limit=3)], Book(four, [page], ["p"]))
        self.assertEqual(lendings(house, [("p", "day", False)] * 40), four * 10)
        self.assertEqual(lasting(house, [("p", "day", True)] + [("p", "day", False)] * 39), 3)

    def test_home_page(self):
        house = House([TurnRule("day", MEMBERS, limit=1, deposit=3)], day_book(home=["mon"]))
        self.assertEqual(lendings(house, [LATE] * 5), ["ann", "ben", "ann", "ben", "ann"])
        self.assertEqual((lasting(house, [LATE] * 5), row_price(house, [LATE] * 5)), (5, 0))

    def test_late_when_nobody_has_the_key(self):
        book = Book(MEMBERS, [("mon", [], ["mon", "tue"]), ("tue", [("ann", 0), ("ben", 0)], ["tue"])], ["mon"])
        house = House([TurnRule("day", MEMBERS, limit=0), TurnRule("free", MEMBERS)], book)
        self.assertEqual(lendings(house, [LATE, LATE, ("tue", "free", True)]), ["", "", "ann"])
        self.assertEqual(lasting(house, [LATE, ("tue", "day", False)]), 1)
        # A move that lends to nobody keeps the key on the hook.
        rules = [TurnRule("day", MEMBERS), TurnRule("hard", MEMBERS, barred=["ann", "ben"])]
        house = House(rules, Book(MEMBERS, [("mon", [("ann", 0)], ["mon"])], ["mon"]))
        self.assertEqual(lendings(house, [LATE, ("mon", "hard", False)]), ["", ""])

    def test_takers_of_bids(self):
        book = Book(MEMBERS, [("mon", [("ann", 2), ("ben", 5)], ["mon"])], ["mon"])
        sale = BidRule("day", MEMBERS, limit=1)
        self.assertEqual(lendings(House([sale], book), [ON]), [""])
        self.assertIsNone(lendings(House([sale], book), [ON, ON]))
        self.assertEqual(lasting(House([sale], book), [ON, ON, ON]), 1)
        both = House([sale.changed(hours=2)], book)
        self.assertEqual(lendings(both, [ON] * 3), [""] * 3)
        # The last taker, ann, keeps the key: with two hours she has it in the second one.
        rules = [BidRule("day", MEMBERS, hours=2), TurnRule("hard", MEMBERS, barred=["ann"])]
        self.assertEqual(lasting(House(rules, book), [LATE, ("mon", "hard", False)]), 1)
        rules = [BidRule("day", MEMBERS), TurnRule("hard", MEMBERS, barred=["ann"])]
        self.assertEqual(lendings(House(rules, book), [LATE, ("mon", "hard", False)]), ["", ""])

    def test_held_belongs_to_the_next_round(self):
        rules = [TurnRule("day", MEMBERS), TurnRule("hard", MEMBERS, barred=["ann"])]
        house = House(rules, Book(MEMBERS, [("mon", [("ann", 0)], ["mon"])], ["mon"]))
        hard = ("mon", "hard", False)
        # Only a move that lends to nobody keeps the promise of the next round.
        self.assertEqual(lendings(house, [LATE, hard]), ["", ""])
        self.assertEqual(lendings(house, [LATE]), ["ann"])
        sale = House([BidRule("day", MEMBERS), rules[1]], house.book)
        self.assertIsNone(lendings(sale, [LATE, hard]))
        self.assertEqual((lasting(sale, [LATE, hard]), lasting(sale, [LATE]), lendings(sale, [LATE])), (1, 1, [""]))

    def test_fault_in_the_last_round(self):
        self.assertIsNone(lendings(DAY, [ON, ON, LATE, ON]))
        self.assertEqual(lasting(DAY, [ON, ON, LATE, ON]), 3)
        hard = DAY.changed(limit=0)
        self.assertIsNone(lendings(hard, [ON]))
        self.assertEqual((lasting(hard, [ON]), lasting(hard, [ON, ON])), (0, 0))

    def test_against_all_lists(self):
        chance = random.Random(500)
        seen = set()
        for _ in range(400):
            house = some_house(chance)
            row = some_row(chance, house, chance.randint(0, 6))
            found = all_lendings(house, row)
            self.assertEqual(lendings(house, row), found[-1][0] if found[-1] else None)
            long = max(size for size, lists in enumerate(found) if lists)
            self.assertEqual(lasting(house, row), long)
            seen.add((len(row), long))
        self.assertLessEqual({(6, 6), (6, 1), (6, 3), (5, 4), (2, 0), (0, 0)}, seen)

    def test_the_first_one_in_the_order_of_moves(self):
        # Lending to ann first leads nowhere, as ben would wait once too often behind the late round.
        house = House([TurnRule("day", MEMBERS, limit=1)], day_book())
        self.assertEqual(lendings(house, [ON, LATE]), ["ann", "ben"])
        self.assertIsNone(lendings(house, [ON, LATE, ON]))
        book = Book(MEMBERS, [("mon", [("ann", 0), ("ben", 0)], ["tue"]), ("tue", [("ben", 0)], ["mon"])], ["mon"])
        house = House([TurnRule("day", MEMBERS, limit=1)], book)
        row = [LATE, ("tue", "day", False), ("mon", "day", False)]
        self.assertEqual(lendings(house, row), ["ben", "", "ann"])


class PriceTest(Case):
    def test_deposits_and_votes(self):
        rules = [TurnRule("day", MEMBERS, fee=2, deposit=5, start=1), BidRule("sale", MEMBERS, fee=3, deposit=7)]
        pages = [("mon", [], ["mon", "tue"]), ("tue", [], ["mon"])]
        house = House(rules, Book(MEMBERS, pages, ["mon"], home=["tue"]), [(("day",), 1)])
        self.assertEqual([house.vote_price("day", "sale"), house.vote_price("sale", "day")], [6, 0])
        day, sale = ("mon", "day", True), ("mon", "sale", True)
        self.assertEqual(row_price(house, [day]), 5)
        self.assertEqual(row_price(house, [day, sale]), 18)
        self.assertEqual(row_price(house, [day, sale, day, sale]), 5 + 7 + 5 + 7 + 6 + 0 + 6)
        # Home pages and rounds that are not late cost no deposit; nobody needs to have the key for it.
        self.assertEqual(row_price(house, [day, ("tue", "sale", True), ("mon", "sale", False)]), 5 + 6 + 6)
        # Staying with a rule can cost a vote, too.
        self.assertEqual(house.vote_price("sale", "sale"), 6)
        self.assertEqual(row_price(house, [day, sale, sale]), 5 + 6 + 7 + 6 + 7)

    def test_at_random(self):
        chance = random.Random(501)
        for _ in range(150):
            house = some_house(chance)
            row = some_row(chance, house, 6)
            price = 0
            for at, (page, rule, late) in enumerate(row):
                if late and page not in house.book.home:
                    price += house.rule(rule).deposit
                if at > 0:
                    price += house.vote_price(row[at - 1][1], rule)
            self.assertEqual(row_price(house, row), price)


class WrongTest(Case):
    def setUp(self):
        rules = [TurnRule("day", MEMBERS), TurnRule("hard", MEMBERS, limit=0)]
        pages = [("mon", [("ann", 0)], ["tue"]), ("tue", [("ann", 0), ("ben", 0)], ["mon", "tue"]), ("wed", [], [])]
        self.house = House(rules, Book(MEMBERS, pages, ["mon", "wed"]))

    def refused(self, place, *row):
        for call in (lendings, lasting, row_price):
            self.fails(BadRow, {"place": place}, call, self.house, list(row))
            self.fails(BadRow, {"place": place}, call, self.house, row)

    def test_pages(self):
        self.refused(0, ("tue", "day", False))
        self.refused(0, ("x", "day", False))
        self.refused(0, ("", "day", False))
        self.refused(0, ("day", "day", False))
        self.refused(1, ON, ON)
        self.refused(1, ON, ("wed", "day", False))
        self.refused(1, ("wed", "day", False), ON)
        self.refused(3, ON, ("tue", "day", True), ("tue", "hard", False), ("wed", "day", False))

    def test_rules(self):
        self.refused(0, ("mon", "hard", False))
        self.refused(0, ("mon", "x", False))
        self.refused(0, ("mon", "mon", False))
        self.refused(1, ON, ("tue", "x", False))
        self.refused(2, ON, ("tue", "hard", False), ("tue", "", False))

    def test_first_of_several(self):
        self.refused(0, ("tue", "hard", False), ("x", "y", True))
        self.refused(1, ON, ("tue", "x", False), ("x", "day", False))
        self.refused(2, LATE, ("tue", "hard", False), ("wed", "day", False), ("mon", "x", False))
        # A row is looked at to its end, also if it is barren before.
        self.assertIsNone(lendings(self.house, [ON, ("tue", "hard", False)]))
        self.refused(2, ON, ("tue", "hard", False), ("wed", "day", False))


if __name__ == "__main__":
    unittest.main()
