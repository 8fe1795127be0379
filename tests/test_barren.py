"""Barren rows [51]."""

import random
import unittest

from helpers import Case
from making import day_book, some_house
from rounds import some_games
from rows import barren_by_hand, knots_by_hand
from turnsandkeys.barren import barren_row
from turnsandkeys.errors import BadNumber, TooLarge
from turnsandkeys.games import house_price
from turnsandkeys.houses import House
from turnsandkeys.pages import Book
from turnsandkeys.reading import read_house
from turnsandkeys.rules import BidRule, TurnRule
from turnsandkeys.told import lendings, row_price

MEMBERS = ["ann", "ben"]
DAY = House([TurnRule("day", MEMBERS, limit=1, deposit=3)], day_book())
ON, LATE = ("mon", "day", False), ("mon", "day", True)

# Houses with just so many knots, or with the first barren row just at such a knot.
BARELY = """members deposit z
turn page
limit 2
deposit 2
fee 3
start 2
turn z
limit 2
deposit 3
fee 2
start 0
turn begin
limit 2
deposit 0
fee 1
start 0
page z deposit 0 z 1 > page z
page page deposit 4 > page z
home z
begin page z
ballots 2 page z
ballots 3 begin page z"""
ONE_MORE = """members aside limit turn
turn page
limit 2
deposit 3
fee 3
start 0
page ben turn 3 > none ben z turn
page turn limit 0 > turn none ben
page z limit 1 turn 3 >
page none turn 3 > none
home turn
begin turn z none
ballots 1
ballots 5 page"""
AT_THE_LAST = """members z page
turn limit
limit 3
deposit 3
fee 4
start 1
turn turn
limit 3
deposit 1
fee 2
start 1
page z z 1 page 4 > begin z
page deposit page 1 >
page begin page 1 > begin deposit z
begin begin
ballots 2 turn"""
BEHIND_THE_LAST = """members deposit ben
turn ben
limit 2
barred ben
deposit 2
fee 4
start 1
turn aside
limit 2
deposit 3
fee 0
start 3
page none deposit 1 ben 3 > page aside none
page aside deposit 1 > aside page begin none
page page > page none
page begin deposit 2 ben 3 > aside none page
home none
begin begin page
ballots 3
ballots 1 ben
ballots 1 ben aside"""

WITH_BARRED_KEEPERS = """members ann page
bid none
limit 3
barred ann
deposit 1
fee 2
start 1
weights 2 2
hours 3
turn aside
limit 3
deposit 1
fee 4
start 1
page z page 4 > limit
page turn > limit
page begin > begin z turn limit
page limit ann 2 page 1 > turn begin
home begin
begin limit begin turn
ballots 2 none aside"""


class BarrenTest(Case):
    def test_by_hand(self):
        self.has_parameters(barren_row, "house", "*", "most=4")
        self.assertEqual(barren_row(DAY), [LATE, ON])
        self.assertEqual(barren_row(house=DAY, most=2), [LATE, ON])
        self.assertIsNone(barren_row(DAY, most=1))
        self.assertEqual(barren_row(DAY.changed(limit=0), most=1), [ON])
        self.assertIsNone(barren_row(DAY.changed(limit=None), most=8))
        self.assertEqual([barren_row(DAY.changed(limit=3), most=most) for most in (1, 2, 3)], [None] * 3)
        self.assertEqual(barren_row(DAY.changed(limit=3)), [LATE, LATE, LATE, ON])
        self.is_new_list(lambda: barren_row(DAY))
        self.keeps_arguments(barren_row, DAY, most=3)

    def test_most(self):
        for most in range(1, 9):
            self.assertEqual(barren_row(DAY, most=most), [LATE, ON] if most > 1 else None)
        for most in (0, 9, -1, 10 ** 59):
            self.fails(BadNumber, {"number": most}, barren_row, DAY, most=most)

    def test_knot_without_pairs(self):
        # Whoever has the key late is barred in the next round: no pair is left before it.
        rules = [BidRule("day", MEMBERS), TurnRule("hard", MEMBERS, barred=["ann"])]
        house = House(rules, Book(MEMBERS, [("mon", [("ann", 0)], ["mon"])], ["mon"]))
        self.assertEqual(barren_row(house), [LATE, ("mon", "hard", False)])
        self.assertIsNone(barren_row(house, most=1))
        knots, broken = knots_by_hand(house, 4)
        self.assertEqual((knots[-1], broken), (("mon", "hard", frozenset()), True))

    def test_first_of_several(self):
        pages = [("mon", [("ann", 0), ("ben", 0)], ["wed", "mon"]), ("tue", [], ["mon"]), ("wed", [], ["mon"])]
        house = House([TurnRule("day", MEMBERS, limit=0)], Book(MEMBERS, pages, ["wed", "tue"]))
        self.assertEqual(barren_row(house), [("wed", "day", False), ("mon", "day", False)])
        rules = [TurnRule("day", MEMBERS), TurnRule("soft", MEMBERS), TurnRule("hard", MEMBERS, limit=0)]
        house = House(rules, day_book())
        self.assertEqual(barren_row(house), [("mon", "day", False), ("mon", "hard", False)])

    def test_against_all_rows(self):
        chance = random.Random(510)
        seen = set()
        for _ in range(250):
            house = some_house(chance, rules=2, pages=2)
            for most in (1, 2, 3, 4):
                row = barren_row(house, most=most)
                self.assertEqual(row, barren_by_hand(house, most))
                if row is not None:
                    self.assertIsNone(lendings(house, row))
                    self.assertIsNotNone(lendings(house, row[:-1]))
                seen.add((most, row and len(row)))
        self.assertLessEqual({(4, None), (4, 1), (4, 2), (4, 3), (4, 4), (1, 1)}, seen)

    def test_against_all_rows_up_to_8(self):
        chance = random.Random(511)
        seen = set()
        for _ in range(60):
            house = some_house(chance, rules=1, pages=1).changed(limit=chance.choice([None, 1, 2, 3, 3, 3]))
            for most in range(1, 9):
                row = barren_row(house, most=most)
                self.assertEqual(row, barren_by_hand(house, most))
                seen.add((most, row and len(row)))
        self.assertLessEqual({(8, None), (8, 2), (5, 4), (8, 4)}, seen)

    def test_bounds_the_price_of_the_house(self):
        chance = random.Random(512)
        many = 0
        for house, _ in some_games(chance, 60):
            row = barren_row(house)
            if row is not None:
                many += 1
                self.assertLessEqual(house_price(house), row_price(house, row))
        self.assertGreater(many, 10)


class KnotsTest(Case):
    def test_300_and_301_without_a_barren_row(self):
        house = read_house(BARELY)
        knots, broken = knots_by_hand(house, 5)
        self.assertEqual((len(knots), len(set(knots)), broken), (300, 300, False))
        self.assertIsNone(barren_row(house, most=5))
        # Knots with five rounds before them are there, too, but they are not looked at.
        self.assertGreater(len(knots_by_hand(house, 6)[0]), 300)
        self.fails(TooLarge, {}, barren_row, house, most=6)
        house = read_house(ONE_MORE)
        knots, broken = knots_by_hand(house, 8)
        self.assertEqual((len(knots), broken), (301, False))
        self.fails(TooLarge, {}, barren_row, house, most=8)
        self.assertIsNone(barren_row(house, most=7))

    def test_barren_row_at_the_300th_and_the_301st_knot(self):
        house = read_house(AT_THE_LAST)
        knots, broken = knots_by_hand(house, 5)
        self.assertEqual((len(knots), broken), (300, True))
        for most in (5, 6, 8):
            row = barren_row(house, most=most)
            self.assertEqual((len(row), lendings(house, row)), (5, None))
            self.assertIsNotNone(lendings(house, row[:-1]))
        house = read_house(BEHIND_THE_LAST)
        knots, broken = knots_by_hand(house, 6)
        self.assertEqual((len(knots), broken), (301, True))
        self.fails(TooLarge, {}, barren_row, house, most=6)
        self.fails(TooLarge, {}, barren_row, house, most=8)

    def test_pairs_with_barred_keepers_make_no_other_knots(self):
        # If these pairs stayed in the knots, there would be 306 of them.
        house = read_house(WITH_BARRED_KEEPERS)
        knots, broken = knots_by_hand(house, 6)
        self.assertEqual((len(knots), broken), (300, False))
        self.assertIsNone(barren_row(house, most=6))

    def test_wrong_most_before_too_large(self):
        self.fails(BadNumber, {"number": 9}, barren_row, read_house(ONE_MORE), most=9)
        self.fails(BadNumber, {"number": 0}, barren_row, read_house(ONE_MORE), most=0)


if __name__ == "__main__":
    unittest.main()
