"""Standings and moves [35, 36]."""

import itertools
import random
import unittest

from helpers import Case
from making import day_book, some_house
from turnsandkeys.errors import BadStanding
from turnsandkeys.houses import House
from turnsandkeys.pages import Book
from turnsandkeys.rules import BidRule, TurnRule
from turnsandkeys.standings import first_standings, is_standing, moves

MEMBERS = ["ben", "ann", "cid"]
PAGES = [("mon", [("cid", 0), ("ben", 7)], ["tue", "mon"]), ("tue", [], ["wed"]), ("wed", [("ann", 1)], [])]


def house():
    book = Book(MEMBERS, PAGES, ["tue", "mon"], home=["wed"])
    rules = [TurnRule("day", MEMBERS, limit=1, barred=["cid"]), BidRule("sale", MEMBERS, limit=2, barred=["ann"])]
    return House(rules, book)


WRONG = [
    ("thu", "day", "", (0, 0, 0)), ("", "day", "", (0, 0, 0)), ("ben", "day", "", (0, 0, 0)),
    ("mon", "rest", "", (0, 0, 0)), ("mon", "", "", (0, 0, 0)), ("mon", "mon", "", (0, 0, 0)),
    ("mon", "day", "dan", (0, 0, 0)), ("mon", "day", "day", (0, 0, 0)),
    ("mon", "day", "cid", (0, 0, 0)), ("mon", "sale", "ann", (0, 0, 0)),
    ("mon", "day", "", (0, 0)), ("mon", "day", "", (0, 0, 0, 0)), ("mon", "day", "", ()),
    ("mon", "day", "", (-1, 0, 0)), ("mon", "day", "", (0, 0, -1)), ("mon", "day", "", (3, 0, 0)),
    ("mon", "day", "ben", (0, 0, 3)), ("mon", "day", "", (0, 10 ** 59, 0)),
]


class StandingsTest(Case):
    def test_parameters(self):
        self.has_parameters(is_standing, "house", "standing")
        self.has_parameters(first_standings, "house")
        self.has_parameters(moves, "house", "standing")

    def test_right_ones(self):
        for keeper in ("", "ben", "ann"):
            self.assertIs(is_standing(house(), ("mon", "day", keeper, (0, 1, 2))), True)
        for keeper in ("", "ben", "cid"):
            self.assertIs(is_standing(house=house(), standing=("wed", "sale", keeper, (2, 2, 2))), True)

    def test_wrong_ones(self):
        for standing in WRONG:
            self.assertIs(is_standing(house(), standing), False)

    def test_most(self):
        unlimited = house().changed(limit=None)
        self.assertIs(is_standing(unlimited, ("mon", "day", "", (0, 0, 0))), True)
        self.assertIs(is_standing(unlimited, ("mon", "day", "", (0, 1, 0))), False)
        self.assertIs(is_standing(house().changed(limit=3), ("mon", "day", "", (3, 3, 3))), True)
        # The bound of all rules counts, not that of the rule in force.
        self.assertIs(is_standing(house(), ("mon", "day", "", (2, 2, 2))), True)

    def test_first_standings(self):
        self.assertEqual(first_standings(house()), [("tue", "day", "", (0, 0, 0)), ("mon", "day", "", (0, 0, 0))])
        alone = House([TurnRule("day", ["ann", "ben"])], day_book())
        self.assertEqual(first_standings(house=alone), [("mon", "day", "", (0, 0))])
        self.is_new_list(lambda: first_standings(alone))

    def test_first_standings_are_standings(self):
        chance = random.Random(350)
        for _ in range(50):
            made = some_house(chance)
            found = first_standings(made)
            self.assertEqual([page for page, _, _, _ in found], list(made.book.starts))
            self.assertTrue(all(is_standing(made, standing) for standing in found))


class MovesTest(Case):
    def test_by_hand(self):
        self.assertEqual(moves(house(), ("mon", "day", "", (0, 1, 2))), ["ben", ""])
        self.assertEqual(moves(house(), ("wed", "day", "", (0, 0, 0))), ["ann", ""])
        self.assertEqual(moves(house(), ("tue", "day", "", (0, 0, 0))), [""])
        self.assertEqual(moves(house(), ("mon", "sale", "", (0, 0, 0))), [""])
        for rule, keeper in (("day", "ben"), ("day", "ann"), ("sale", "cid")):
            self.assertEqual(moves(house=house(), standing=("mon", rule, keeper, (0, 0, 0))), [""])
        for standing in (("mon", "day", "", (0, 0, 0)), ("mon", "day", "ann", (0, 0, 0)), ("mon", "sale", "", (0, 0, 0))):
            self.is_new_list(lambda: moves(house(), standing))

    def test_moves_of_the_rule(self):
        chance = random.Random(360)
        for _ in range(40):
            made = some_house(chance)
            for page, rule in itertools.product(made.book, made.rules):
                standing = (page.name, rule.name, "", (0,) * len(made.members))
                self.assertEqual(moves(made, standing), rule.moves(page))

    def test_wrong_ones(self):
        kept = house()
        for standing in WRONG:
            self.fails(BadStanding, {"standing": standing}, moves, kept, standing)
        self.assertEqual(kept, house())


if __name__ == "__main__":
    unittest.main()
