"""The examples of the document."""

import unittest

from turnsandkeys.bounds import full_price, sure_price
from turnsandkeys.counts import count
from turnsandkeys.errors import BadStep
from turnsandkeys.games import house_price
from turnsandkeys.guests import Guests
from turnsandkeys.habits import Habit
from turnsandkeys.houses import House
from turnsandkeys.lacks import lack_table
from turnsandkeys.ladders import ladder, ladder_prices
from turnsandkeys.links import Links
from turnsandkeys.pages import Book
from turnsandkeys.papers import decide
from turnsandkeys.raising import least_raising
from turnsandkeys.rents import dearest
from turnsandkeys.rolls import Roll
from turnsandkeys.rules import TurnRule
from turnsandkeys.turning import least_ballots
from turnsandkeys.ways import first_way, potentials


class ExamplesTest(unittest.TestCase):
    def test_first(self):
        links = Links(["ann", "ben", "cid"], [("ann", "ben", 2), ("ben", "cid", 3), ("ann", "cid", 9)])
        found = [first_way(links, "ann", "cid"), potentials(links, ["ben"]), least_raising(links, ["ann"], ["cid"], 10).total]
        self.assertEqual(found, [[0, 1], [None, 0, 3], 6])

    def test_second(self):
        roll = Roll(["day", "sale", "rest"], [(("day",), 4), (("sale", "rest"), 3), (("rest", "sale"), 2)])
        found = [
            count(roll).order, lack_table(roll, ("rest", "sale")), least_ballots(roll, "day"), least_ballots(roll, "rest"),
        ]
        self.assertEqual(found, [("rest", "day"), ((0, 0, 0), (1, 0)), 1, 2])

    def test_third(self):
        bidders = [("ann", 1, 5), ("ben", 2, 2), ("cid", 1, 4)]
        given = dearest(bidders, [3, 1])
        found = [ladder(bidders, hours=2), ladder_prices(bidders), given.total, given.rents]
        self.assertEqual(found, [("ann", "ben"), [(("ann",), 0), (("ben",), 1), (("cid",), 2)], 19, (12, 4)])

    def test_fourth(self):
        guests = Guests([(10, 2), (3, 1), (6, 3)], 4)
        found = [guests.best(), guests.best(most=1), guests.floor]
        self.assertEqual(found, [((0, 2), (38, 9)), ((0,), (10, 3)), 5])

    def test_fifth(self):
        book = Book(["ann", "ben"], [("mon", [("ann", 0), ("ben", 0)], ["mon"])], ["mon"])
        house = House([TurnRule("day", ["ann", "ben"], limit=1, deposit=3)], book)
        found = [house_price(house), decide(house, 2).told(), decide(house, 3).told()]
        table, plan = "5 standings, broken for 3 at least", "4 standings, broken for 3 in 2 rounds at most"
        self.assertEqual(found, [3, table, plan])

    def test_sixth(self):
        book = Book(["ann", "ben"], [("mon", [("ann", 0), ("ben", 0)], ["mon"])], ["mon"])
        day = TurnRule("day", ["ann", "ben"], limit=2, deposit=3)
        hard = TurnRule("hard", ["ann", "ben"], limit=1, deposit=3, start=5)
        house = House([day, hard], book, [(("day",), 2), (("hard",), 1)])
        found = [house.vote_price("day", "hard"), full_price(house), house_price(house), sure_price(house)]
        self.assertEqual(found, [2, 5, 5, 3])

    def test_seventh(self):
        with self.assertRaises(BadStep) as caught:
            Habit.read("over 2,not ann")
        self.assertEqual(caught.exception.place, 0)


if __name__ == "__main__":
    unittest.main()
