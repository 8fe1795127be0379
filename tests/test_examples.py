"""The examples of the document."""

import unittest

from turnsandkeys.counts import count
from turnsandkeys.guests import Guests
from turnsandkeys.lacks import lack_table
from turnsandkeys.ladders import ladder, ladder_prices
from turnsandkeys.links import Links
from turnsandkeys.raising import least_raising
from turnsandkeys.rents import dearest
from turnsandkeys.rolls import Roll
from turnsandkeys.turning import least_ballots
from turnsandkeys.ways import first_way, potentials


class ExamplesTest(unittest.TestCase):
    def test_first(self):
        links = Links(["ann", "ben", "cid"], [("ann", "ben", 2), ("ben", "cid", 3), ("ann", "cid", 9)])
        found = [first_way(links, "ann", "cid"), potentials(links, ["ben"]), least_raising(links, ["ann"], ["cid"], 10).total]
        self.assertEqual(found, [[0, 1], [None, 0, 3], 6])

    def test_second(self):
        roll = Roll(["day", "sale", "rest"], [(("day",), 4), (("sale", "rest"), 3), (("rest", "sale"), 2)])
        found = [
            count(roll).order, lack_table(roll, ("rest", "sale")), least_ballots(roll, "day"), least_ballots(roll, "rest"),
        ]
        self.assertEqual(found, [("rest", "day"), ((0, 0, 0), (1, 0)), 1, 2])

    def test_third(self):
        bidders = [("ann", 1, 5), ("ben", 2, 2), ("cid", 1, 4)]
        given = dearest(bidders, [3, 1])
        found = [ladder(bidders, hours=2), ladder_prices(bidders), given.total, given.rents]
        self.assertEqual(found, [("ann", "ben"), [(("ann",), 0), (("ben",), 1), (("cid",), 2)], 19, (12, 4)])

    def test_fourth(self):
        guests = Guests([(10, 2), (3, 1), (6, 3)], 4)
        found = [guests.best(), guests.best(most=1), guests.floor]
        self.assertEqual(found, [((0, 2), (38, 9)), ((0,), (10, 3)), 5])


if __name__ == "__main__":
    unittest.main()
