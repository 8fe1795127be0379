"""Who can have the key at a moment, and for how many coins [52, 53]."""

import itertools
import random
import unittest

from helpers import Case
from keeping import all_takers, holder_price_by_hand, keeper_prices_by_hand, least, round_price, some_rounds
from making import some_house
from turnsandkeys.errors import BadNumber, BadRow, UnknownName, UnknownPage
from turnsandkeys.holding import far_keeper_prices, hold_tolls, holder_prices, keeper_prices
from turnsandkeys.houses import House
from turnsandkeys.pages import Book
from turnsandkeys.rules import BidRule, TurnRule
from turnsandkeys.tolls import Tolls

MEMBERS = ["ann", "ben", "cid"]
SPOTS = ("", "ann", "ben", "cid")
BIDS = [("ann", 5), ("ben", 3)]


def one_page(*rules, home=(), bids=BIDS):
    return House(rules, Book(MEMBERS, [("mon", bids, ["mon"]), ("tue", [], [])], ["mon"], home=home))


class TollsTest(Case):
    def expect(self, house, rule, *entries, page="mon"):
        found = hold_tolls(house, page, rule)
        self.assertIs(type(found), Tolls)
        self.assertEqual(found.names, SPOTS)
        self.assertEqual(found, Tolls(SPOTS, entries), found.entries())

    def test_parameters(self):
        self.has_parameters(hold_tolls, "house", "page", "rule")
        self.has_parameters(keeper_prices, "house", "rounds")
        self.has_parameters(far_keeper_prices, "house", "page", "rule", "times")
        self.has_parameters(holder_prices, "house", "rounds")
        house = one_page(TurnRule("day", MEMBERS))
        self.assertEqual(hold_tolls(house=house, page="mon", rule="day"), hold_tolls(house, "mon", "day"))

    def test_turns(self):
        house = one_page(TurnRule("day", MEMBERS, deposit=4, links=[("ann", "cid", 2), ("cid", "ben", 1)]))
        self.expect(
            house, "day",
            ("", "", 0), ("", "ann", 4), ("", "ben", 4), ("", "cid", 6),
            ("ann", "", 0), ("ann", "ann", 4), ("ann", "ben", 7), ("ann", "cid", 6),
            ("ben", "", 0), ("ben", "ben", 4),
            ("cid", "", 0), ("cid", "ben", 5), ("cid", "cid", 4),
        )
        # Nobody wishes on this page, so nobody gets the key from the hook.
        self.expect(
            house, "day",
            ("", "", 0), ("ann", "", 0), ("ann", "ann", 4), ("ann", "ben", 7), ("ann", "cid", 6),
            ("ben", "", 0), ("ben", "ben", 4), ("cid", "", 0), ("cid", "ben", 5), ("cid", "cid", 4), page="tue",
        )

    def test_bids(self):
        sale = BidRule("sale", MEMBERS, deposit=10, links=[("ben", "cid", 1)])
        late = [("ann", "", 0), ("ann", "ann", 10), ("ben", "", 0), ("ben", "ben", 10), ("ben", "cid", 11), ("cid", "", 0)]
        free = [("", "", 0), ("cid", "cid", 10)]
        self.expect(one_page(sale), "sale", *free, *late, ("", "ann", 10), ("", "ben", 13), ("", "cid", 14))
        both = sale.changed(hours=2)
        # With two hours ben is the last one without any raise.
        self.expect(one_page(both), "sale", *free, *late, ("", "ann", 13), ("", "ben", 10), ("", "cid", 11))

    def test_barred_keeper(self):
        rule = TurnRule("day", MEMBERS, deposit=4, barred=["ann"], links=[("ben", "ann", 0), ("ann", "cid", 0), ("ben", "cid", 9)])
        house = one_page(rule)
        # From ann nothing goes on, and nobody can keep the key late by handing it on to ann or along her.
        self.expect(
            house, "day", ("", "", 0), ("", "ben", 4), ("", "cid", 13), ("ben", "", 0), ("ben", "ben", 4), ("ben", "cid", 13),
            ("cid", "", 0), ("cid", "cid", 4),
        )
        self.expect(one_page(TurnRule("day", MEMBERS, barred=MEMBERS)), "day", ("", "", 0))

    def test_home_page(self):
        rule = TurnRule("day", MEMBERS, links=[("ann", "cid", 2)])
        self.expect(one_page(rule, home=["mon"]), "day", *[(spot, "", 0) for spot in SPOTS])
        sale = BidRule("sale", MEMBERS, barred=["ben"])
        self.expect(one_page(sale, home=["mon"]), "sale", *[(spot, "", 0) for spot in SPOTS if spot != "ben"])

    def test_at_random(self):
        chance = random.Random(530)
        for _ in range(150):
            house = some_house(chance)
            for told in itertools.product(house.book.names, house.names):
                tolls = hold_tolls(house, *told)
                spots = ("", *house.members)
                for before, keeper in itertools.product(spots, spots):
                    prices = [round_price(house, told, before, takers, keeper) for takers in all_takers(house)]
                    self.assertEqual(tolls[before, keeper], least(prices))

    def test_errors_in_order(self):
        house = one_page(TurnRule("day", MEMBERS))
        for page in ("wed", "", "day"):
            self.fails(UnknownPage, {"name": page}, hold_tolls, house, page, "x")
            self.fails(UnknownPage, {"name": page}, far_keeper_prices, house, page, "x", -1)
        for rule in ("x", "", "mon"):
            self.fails(UnknownName, {"name": rule}, hold_tolls, house, "mon", rule)
            self.fails(UnknownName, {"name": rule}, far_keeper_prices, house, "mon", rule, -1)
        for times in (-1, 10 ** 30 + 1, -(10 ** 59), 10 ** 59):
            self.fails(BadNumber, {"number": times}, far_keeper_prices, house, "mon", "day", times)


class KeeperTest(Case):
    def test_by_hand(self):
        house = one_page(TurnRule("day", MEMBERS, deposit=4, links=[("ann", "cid", 2)]), TurnRule("hard", MEMBERS, barred=["ann"]))
        first = [0, None, None, None]
        self.assertEqual(keeper_prices(house, []), [first])
        self.assertEqual(keeper_prices(house=house, rounds=(("mon", "day"),)), [first, [0, 4, 4, 6]])
        rounds = [("mon", "day"), ("tue", "hard"), ("tue", "day")]
        # Behind the rule that bars ann nobody gets the key from her; from ben and cid it goes on.
        self.assertEqual(keeper_prices(house, rounds), [first, [0, 4, 4, 6], [0, None, 4, 6], [0, None, 8, 10]])
        found = self.keeps_arguments(keeper_prices, house, rounds)
        self.assertEqual((type(found), type(found[0])), (list, list))
        found[0][0] = 9
        self.is_new_list(lambda: keeper_prices(house, rounds))
        self.assertEqual(keeper_prices(house, rounds)[0], first)

    def test_against_all_holdings(self):
        chance = random.Random(531)
        for _ in range(120):
            house = some_house(chance)
            rounds = some_rounds(chance, house, chance.randint(0, 3))
            found = keeper_prices(house, rounds)
            self.assertEqual(len(found), len(rounds) + 1)
            for size, prices in enumerate(found):
                self.assertEqual(prices, keeper_prices_by_hand(house, rounds[:size]))

    def test_60_rounds(self):
        house = one_page(TurnRule("day", MEMBERS, deposit=10 ** 9))
        found = keeper_prices(house, [("mon", "day")] * 60)
        self.assertEqual((len(found), found[60]), (61, [0, 10 ** 9, 10 ** 9, None]))
        found = keeper_prices(house, [("mon", "day")] + [("tue", "day")] * 59)
        self.assertEqual(found[60], [0, 60 * 10 ** 9, 60 * 10 ** 9, None])

    def test_bad_rows(self):
        house = one_page(TurnRule("day", MEMBERS))
        right = ("tue", "day")
        for wrong in (("wed", "day"), ("mon", "x"), ("", "day"), ("mon", ""), ("day", "mon")):
            for before in range(3):
                rounds = [*[right] * before, wrong, ("x", "y"), right]
                self.fails(BadRow, {"place": before}, keeper_prices, house, rounds)
                self.fails(BadRow, {"place": before}, holder_prices, house, tuple(rounds))


class FarTest(Case):
    def test_times(self):
        chance = random.Random(532)
        for _ in range(60):
            house = some_house(chance)
            page, rule = chance.choice(house.book.names), chance.choice(house.names)
            found = keeper_prices(house, [(page, rule)] * 60)
            for times in (0, 1, 2, 3, 7, 60):
                self.assertEqual(far_keeper_prices(house, page, rule, times), found[times])
            # The key can stay on the hook for nothing, so the prices do not change any more from some number on.
            self.assertEqual(found[59], found[60])
            self.assertEqual(far_keeper_prices(house=house, page=page, rule=rule, times=10 ** 30), found[60])

    def test_by_hand(self):
        house = one_page(TurnRule("day", MEMBERS, deposit=4, links=[("ann", "cid", 2)]))
        self.assertEqual(far_keeper_prices(house, "mon", "day", 0), [0, None, None, None])
        self.assertEqual(far_keeper_prices(house, "mon", "day", 10 ** 30), [0, 4, 4, 6])
        self.assertEqual(far_keeper_prices(house, "tue", "day", 10 ** 30), [0, None, None, None])
        self.is_new_list(lambda: far_keeper_prices(house, "mon", "day", 3))


class HolderTest(Case):
    def test_takers_and_handing_on(self):
        house = one_page(BidRule("sale", MEMBERS, hours=2, deposit=9, links=[("ann", "cid", 1)]))
        # Both have the key for nothing; cid gets it from ann, who must be the last one for 3.
        self.assertEqual(holder_prices(house, [("mon", "sale")]), [[0, 0, 4]])
        self.assertEqual(holder_prices(house, []), [])
        turns = one_page(TurnRule("day", MEMBERS, links=[("ann", "cid", 1)]))
        self.assertEqual(holder_prices(house=turns, rounds=(("mon", "day"), ("tue", "day"))), [[0, 0, 1], [0, 0, 1]])
        self.assertEqual(holder_prices(turns, [("tue", "day")]), [[None, None, None]])

    def test_home_page(self):
        house = one_page(TurnRule("day", MEMBERS, deposit=9, links=[("ann", "cid", 1)]), home=["mon"])
        self.assertEqual(holder_prices(house, [("mon", "day"), ("tue", "day")]), [[0, 0, 1], [None, None, None]])

    def test_barred_members(self):
        day = TurnRule("day", MEMBERS, deposit=4)
        hard = TurnRule("hard", MEMBERS, barred=["ann"], links=[("ben", "ann", 1), ("ann", "cid", 0), ("ben", "cid", 7)])
        house = one_page(day, hard)
        # The rule bars ann, but the key can be handed on to her, who hands nothing on.
        self.assertEqual(holder_prices(house, [("mon", "hard")]), [[1, 0, 7]])
        # She has kept it late for 4, has it still, and then nothing goes on in this round.
        self.assertEqual(holder_prices(house, [("mon", "day"), ("tue", "hard")]), [[0, 0, None], [4, 4, 11]])
        free = one_page(day.changed(deposit=0), hard)
        self.assertEqual(holder_prices(free, [("mon", "day"), ("tue", "hard")])[1], [0, 0, 7])
        only = House([day, hard], Book(MEMBERS, [("mon", [("ann", 0)], ["mon"]), ("tue", [], [])], ["mon"]))
        self.assertEqual(holder_prices(only, [("mon", "day"), ("tue", "hard")])[1], [4, None, None])
        # A keeper whom the rule bars is no holding, so the next round has nothing from it.
        rounds = [("mon", "day"), ("tue", "hard"), ("tue", "day")]
        self.assertEqual(holder_prices(only, rounds)[2], [None, None, None])

    def test_against_all_holdings(self):
        chance = random.Random(533)
        for _ in range(100):
            house = some_house(chance)
            rounds = some_rounds(chance, house, chance.randint(1, 3))
            found = holder_prices(house, rounds)
            self.assertEqual([type(row) for row in found], [list] * len(rounds))
            for size in range(1, len(rounds) + 1):
                expected = [holder_price_by_hand(house, rounds[:size], member) for member in house.members]
                self.assertEqual(found[size - 1], expected)

    def test_new_lists(self):
        house = one_page(TurnRule("day", MEMBERS))
        rounds = [("mon", "day")] * 2
        self.is_new_list(lambda: holder_prices(house, rounds))
        self.keeps_arguments(holder_prices, house, rounds)


if __name__ == "__main__":
    unittest.main()
