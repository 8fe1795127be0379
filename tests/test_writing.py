"""The text of a house [32]."""

import random
import unittest

from helpers import Case
from making import some_house, some_rule
from turnsandkeys.guests import Guests
from turnsandkeys.houses import House
from turnsandkeys.pages import Book
from turnsandkeys.rules import BidRule, TurnRule
from turnsandkeys.writing import write_house

MEMBERS = ["ben", "ann"]
LINKS = [("ben", "ann", 0), ("ann", "ben", 10 ** 9), ("ben", "ann", 0)]
TEXT = """members ben ann
turn day
limit 3
barred ben ann
link ben ann 0
link ann ben 1000000000
link ben ann 0
deposit 7
fee 0
start 1000000000
bid sale
limit none
barred ann
deposit 0
fee 1
start 0
weights 1 1000
hours 3
offer 10 2
offer 0 1
aside 4
page mon ben 10 ann 0 > tue mon
page tue >
home mon tue
begin tue mon
ballots 3
ballots 4 day
ballots 2000000000 sale day"""


def full_house():
    day = TurnRule("day", MEMBERS, limit=3, barred=["ann", "ben"], links=LINKS, deposit=7, fee=0, start=10 ** 9)
    sale = BidRule("sale", MEMBERS, barred=["ann"], weights=[1, 1000], hours=3, guests=Guests([(10, 2), (0, 1)], 4))
    pages = [("mon", [("ann", 0), ("ben", 10)], ["tue", "mon"]), ("tue", [], [])]
    book = Book(MEMBERS, pages, ["tue", "mon"], home=["tue", "mon"])
    rows = [(("sale", "day"), 10 ** 9), (("day",), 4), (("day", "sale"), 0), ((), 3), (("sale", "day"), 10 ** 9)]
    return House([day, sale], book, rows)


class LinesTest(Case):
    def test_turn(self):
        rule = TurnRule("day", MEMBERS)
        self.assertEqual(rule.lines(), ["turn day", "limit none", "deposit 0", "fee 1", "start 0"])
        rule = TurnRule("limit", MEMBERS, limit=0, barred=["ann"], links=LINKS[:1], deposit=10, fee=100, start=5)
        self.assertEqual(rule.lines(), [
            "turn limit", "limit 0", "barred ann", "link ben ann 0", "deposit 10", "fee 100", "start 5",
        ])

    def test_bid(self):
        shared = ["bid sale", "limit none", "deposit 0", "fee 1", "start 0"]
        self.assertEqual(BidRule("sale", MEMBERS).lines(), [*shared, "weights 1 1", "hours 1"])
        rule = BidRule("sale", MEMBERS, guests=Guests([], 1000))
        self.assertEqual(rule.lines(), [*shared, "weights 1 1", "hours 1", "aside 1000"])

    def test_new_lists(self):
        self.is_new_list(TurnRule("day", MEMBERS).lines)
        self.is_new_list(BidRule("day", MEMBERS).lines)


class WritingTest(Case):
    def test_every_kind_of_line(self):
        self.has_parameters(write_house, "house")
        house = full_house()
        self.assertEqual(write_house(house), TEXT)
        self.assertEqual(house, full_house())

    def test_left_out_lines(self):
        book = Book(["ann"], [("mon", [], [])], ["mon"])
        house = House([BidRule("day", ["ann"])], book)
        self.assertEqual(write_house(house=house), "\n".join([
            "members ann", "bid day", "limit none", "deposit 0", "fee 1", "start 0", "weights 1", "hours 1",
            "page mon >", "begin mon",
        ]))

    def test_page_without_followers(self):
        book = Book(MEMBERS, [("mon", [("ann", 5)], [])], ["mon"])
        lines = write_house(House([TurnRule("day", MEMBERS)], book)).split("\n")
        self.assertEqual(lines[-2:], ["page mon ann 5 >", "begin mon"])

    def test_form(self):
        chance = random.Random(320)
        for _ in range(60):
            text = write_house(some_house(chance))
            self.assertFalse(text.endswith("\n"))
            self.assertTrue(all(all(line.split(" ")) for line in text.split("\n")))

    def test_lines_of_the_rules(self):
        chance = random.Random(321)
        for _ in range(60):
            rules = [some_rule(chance, name, MEMBERS) for name in ("day", "sale", "rest")]
            book = Book(MEMBERS, [("mon", [], [])], ["mon"])
            lines = write_house(House(rules, book)).split("\n")
            self.assertEqual(lines, ["members ben ann", *[line for rule in rules for line in rule.lines()], "page mon >", "begin mon"])


if __name__ == "__main__":
    unittest.main()
