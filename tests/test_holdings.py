"""The cheapest holdings, and what any holding costs [52, 53]."""

import random
import unittest

from helpers import Case
from keeping import all_holdings, all_takers, keeper_prices_by_hand, round_price, some_rounds
from making import some_house
from turnsandkeys.errors import BadHolding, BadRow, UnknownName
from turnsandkeys.holding import keeper_prices
from turnsandkeys.holdings import cheapest_holding, holding_price
from turnsandkeys.houses import House
from turnsandkeys.pages import Book
from turnsandkeys.rules import BidRule, TurnRule

MEMBERS = ["ann", "ben", "cid"]
DAY, TUE, HARD = ("mon", "day"), ("tue", "day"), ("tue", "hard")


def small_house(*rules):
    pages = [("mon", [("ann", 5), ("ben", 3)], ["mon"]), ("tue", [], []), ("wed", [("ann", 0)], [])]
    return House(rules, Book(MEMBERS, pages, ["mon"], home=["wed"]))


HOUSE = small_house(
    TurnRule("day", MEMBERS, deposit=4, links=[("ann", "cid", 2)]), TurnRule("hard", MEMBERS, barred=["ann"], deposit=1),
)
SALE = small_house(BidRule("day", MEMBERS, hours=2, deposit=10))


class CheapestTest(Case):
    def test_parameters(self):
        self.has_parameters(cheapest_holding, "house", "rounds", "spot")
        self.has_parameters(holding_price, "house", "rounds", "holding")
        self.assertEqual(cheapest_holding(house=HOUSE, rounds=(DAY,), spot="ann"), [(("ann",), "ann")])
        self.assertEqual(holding_price(house=HOUSE, rounds=(DAY,), holding=((("ann",), "ann"),)), 4)
        self.is_new_list(lambda: cheapest_holding(HOUSE, [DAY, TUE], "ann"))
        self.keeps_arguments(cheapest_holding, HOUSE, [DAY, TUE], "ann")
        self.keeps_arguments(holding_price, HOUSE, [DAY, TUE], [(("ann",), "ann"), ((), "cid")])

    def test_no_rounds(self):
        self.assertEqual(cheapest_holding(HOUSE, [], ""), [])
        for member in MEMBERS:
            self.assertIsNone(cheapest_holding(HOUSE, [], member))
        self.assertEqual(holding_price(HOUSE, [], []), 0)

    def test_by_hand(self):
        self.assertEqual(cheapest_holding(HOUSE, [DAY], "cid"), [(("ann",), "cid")])
        self.assertEqual(cheapest_holding(HOUSE, [DAY, HARD], "ben"), [(("ben",), "ben"), ((), "ben")])
        self.assertIsNone(cheapest_holding(HOUSE, [DAY, HARD], "ann"))
        self.assertIsNone(cheapest_holding(HOUSE, [TUE], "ann"))
        self.assertIsNone(cheapest_holding(HOUSE, [("wed", "day")], "ann"))
        found = cheapest_holding(SALE, [DAY], "ann")
        # To be the last of two, ann is outbid by ben, or ben does not get the key at all.
        self.assertEqual(found, [(("ben", "ann"), "ann")])
        self.assertEqual(holding_price(SALE, [DAY], found), 13)

    def test_against_all_holdings(self):
        chance = random.Random(534)
        many = 0
        for _ in range(120):
            house = some_house(chance)
            rounds = some_rounds(chance, house, chance.randint(0, 3))
            holdings = [holding for holding, _ in all_holdings(house, rounds)]
            prices = keeper_prices_by_hand(house, rounds)
            for spot, price in zip(["", *house.members], prices):
                found = cheapest_holding(house, rounds, spot)
                if price is None:
                    self.assertIsNone(found)
                    continue
                self.assertIn(found, holdings)
                self.assertEqual(found[-1][1] if found else "", spot)
                self.assertEqual(holding_price(house, rounds, found), price)
                many += spot != ""
        self.assertGreater(many, 60)

    def test_60_rounds(self):
        chance = random.Random(535)
        for _ in range(8):
            house = some_house(chance, members=4)
            rounds = some_rounds(chance, house, 60)
            for spot, price in zip(["", *house.members], keeper_prices(house, rounds)[-1]):
                found = cheapest_holding(house, rounds, spot)
                if price is None:
                    self.assertIsNone(found)
                else:
                    self.assertEqual((len(found), found[-1][1], holding_price(house, rounds, found)), (60, spot, price))

    def test_errors_in_order(self):
        for spot in ("x", "mon", "day", "Ann"):
            self.fails(BadRow, {"place": 1}, cheapest_holding, HOUSE, [DAY, ("x", "day")], spot)
            self.fails(UnknownName, {"name": spot}, cheapest_holding, HOUSE, [DAY], spot)
            self.fails(UnknownName, {"name": spot}, cheapest_holding, HOUSE, [], spot)
        self.fails(BadRow, {"place": 0}, cheapest_holding, HOUSE, [("mon", "x")], "ann")


class PriceTest(Case):
    def test_all_holdings(self):
        chance = random.Random(536)
        for _ in range(40):
            house = some_house(chance, members=2)
            rounds = some_rounds(chance, house, chance.randint(0, 3))
            for holding, price in all_holdings(house, rounds):
                self.assertEqual(holding_price(house, rounds, holding), price)

    def test_wrong_parts(self):
        chance = random.Random(537)
        seen = set()
        for _ in range(60):
            house = some_house(chance)
            rounds = some_rounds(chance, house, 3)
            holding, _ = chance.choice(all_holdings(house, rounds))
            place = chance.randint(0, 2)
            before = holding[place - 1][1] if place else ""
            for takers in [*all_takers(house), ("x",), ("",), (house.members[0],) * 2]:
                for keeper in ["", *house.members, "x"]:
                    if round_price(house, rounds[place], before, takers, keeper) is None:
                        wrong = [*holding[:place], (takers, keeper), *holding[place + 1:]]
                        self.fails(BadHolding, {"place": place}, holding_price, house, rounds, wrong)
                        seen.add((place, bool(before), takers == ()))
        self.assertEqual(len(seen), 10)

    def refused(self, place, rounds, *holding, house=HOUSE):
        self.fails(BadHolding, {"place": place}, holding_price, house, rounds, list(holding))
        self.fails(BadHolding, {"place": place}, holding_price, house, tuple(rounds), holding)

    def test_each_part(self):
        ann, back = (("ann",), "ann"), ((), "")
        self.assertEqual(holding_price(HOUSE, [DAY, TUE, DAY], [ann, ((), "ann"), ((), "cid")]), 4 + 4 + 6)
        # Somebody else has the key, a taker who does not wish, two takers, no keeper before.
        self.refused(0, [DAY], (("ann",), "ben"))
        self.refused(0, [DAY], (("cid",), "cid"))
        self.refused(0, [DAY], (("ann", "ben"), ""))
        self.refused(0, [DAY], ((), "ann"))
        # Takers although there is a keeper; a keeper whom the rule bars; a home page.
        self.refused(1, [DAY, DAY], ann, (("ann",), "ann"))
        self.refused(1, [DAY, HARD], ann, back)
        self.refused(0, [("wed", "day")], (("ann",), "ann"))
        self.refused(1, [DAY, ("wed", "day")], ann, ((), "ann"))
        self.assertEqual(holding_price(HOUSE, [DAY, ("wed", "day")], [ann, back]), 4)
        # Handing on where no link goes, and to somebody whom the rule bars.
        self.refused(0, [DAY], (("ben",), "cid"))
        barring = small_house(TurnRule("day", MEMBERS, links=[("ben", "ann", 0)], barred=["ann"]))
        self.refused(0, [DAY], (("ben",), "ann"), house=barring)
        self.refused(0, [DAY], (("ann",), "cid"), house=SALE)

    def test_first_of_several(self):
        ann, wrong = (("ann",), "ann"), (("x",), "")
        self.refused(0, [DAY] * 3, wrong, wrong, wrong)
        self.refused(1, [DAY] * 3, ann, wrong, wrong)
        self.refused(2, [DAY] * 3, ann, ((), ""), wrong)

    def test_sizes(self):
        ann, wrong = (("ann",), "ann"), (("x",), "")
        self.refused(1, [DAY] * 2, ann)
        self.refused(1, [DAY], ann, ((), "ann"))
        self.refused(0, [], ann)
        self.refused(0, [DAY])
        self.refused(2, [DAY] * 3, wrong, wrong)
        self.refused(1, [DAY], wrong, wrong)

    def test_bad_rows_first(self):
        self.fails(BadRow, {"place": 0}, holding_price, HOUSE, [("x", "day")], [])
        self.fails(BadRow, {"place": 1}, holding_price, HOUSE, [DAY, ("mon", "x")], [(("x",), ""), (("x",), "")])


if __name__ == "__main__":
    unittest.main()
