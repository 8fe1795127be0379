"""Bounds by the parts alone [45, 46]."""

import random
import unittest

from helpers import Case
from making import some_book, some_house, some_names, some_parts
from rounds import least, some_games
from turnsandkeys.bounds import full_price, held_bound, is_full, passes_bound, sure_price, vote_bound
from turnsandkeys.deeds import outcomes
from turnsandkeys.errors import NotFull, TooLarge
from turnsandkeys.games import house_price
from turnsandkeys.guests import Guests
from turnsandkeys.houses import House
from turnsandkeys.pages import Book
from turnsandkeys.passes import longest
from turnsandkeys.rules import BidRule, TurnRule
from turnsandkeys.standings import first_standings

MEMBERS = ["ann", "ben", "cid"]
CALLS = (passes_bound, held_bound, vote_bound, sure_price, is_full, full_price)


def full_book(members, **parts):
    return Book(members, [("mon", [(member, 0) for member in members], ["mon"])], ["mon"], **parts)


def house_of(*rules, ballots=()):
    return House(rules, full_book(rules[0].members), ballots)


def turn(name, members=tuple(MEMBERS), **parts):
    return TurnRule(name, members, **parts)


def longest_price(house):
    """The least price for which a house of TurnRules that always lends to `longest` is broken."""
    prices = {first: 0 for first in first_standings(house)}
    done = set()
    ends = []
    while set(prices) - done:
        standing = min(set(prices) - done, key=lambda found: prices[found])
        done.add(standing)
        page, rule, keeper, passes = standing
        candidates = house.rule(rule).candidates(house.book.page(page))
        move = "" if keeper else longest(house.members, passes, candidates)
        for _, cost, fault, after in outcomes(house, standing, move):
            if fault:
                ends.append(prices[standing] + cost)
            elif after not in prices or prices[standing] + cost < prices[after]:
                prices[after] = prices[standing] + cost
    return least(ends)


class BoundsTest(Case):
    def test_parameters(self):
        for call in CALLS:
            self.has_parameters(call, "house")

    def test_passes_bound(self):
        self.assertIsNone(passes_bound(house=house_of(turn("day"), BidRule("sale", MEMBERS))))
        self.assertEqual(passes_bound(house_of(turn("day", limit=3, deposit=5), BidRule("sale", MEMBERS, deposit=5))), 0)
        self.assertEqual(passes_bound(house_of(BidRule("sale", MEMBERS, limit=3, deposit=5))), 0)
        self.assertEqual(passes_bound(house_of(BidRule("sale", ["ann"], limit=3, deposit=5))), 0)
        self.assertIsNone(passes_bound(house_of(turn("day", ["ann"], limit=0, deposit=5))))
        for limit, times in ((0, 0), (1, 0), (2, 1), (3, 2)):
            self.assertEqual(passes_bound(house_of(turn("day", limit=limit, deposit=5))), 5 * times)
        for limit, times in ((0, 0), (1, 1), (2, 2), (3, 3)):
            self.assertEqual(passes_bound(house_of(turn("day", ["ann", "ben"], limit=limit, deposit=5))), 5 * times)
        for limit, times in ((2, 0), (3, 1)):
            self.assertEqual(passes_bound(house_of(turn("day", list("abcd"), limit=limit, deposit=5))), 5 * times)
        # The least limit and the least deposit, wherever they are.
        house = house_of(turn("day", limit=3, deposit=5), turn("sale", deposit=4), turn("rest", limit=2, deposit=9))
        self.assertEqual(passes_bound(house), 4)
        self.assertEqual(passes_bound(house_of(turn("day", limit=3, deposit=5), turn("sale", limit=3, deposit=9))), 10)

    def test_held_bound(self):
        links = [("ann", "ben", 4), ("ben", "cid", 1)]
        self.assertIsNone(held_bound(house=house_of(turn("day", links=links))))
        self.assertIsNone(held_bound(house_of(turn("day", barred=["cid"]))))
        self.assertIsNone(held_bound(house_of(turn("day", barred=MEMBERS, links=links))))
        self.assertEqual(held_bound(house_of(turn("day", barred=["cid"], links=links))), 1)
        self.assertEqual(held_bound(house_of(turn("day", barred=["ben", "cid"], links=links))), 4)
        dear = BidRule("sale", MEMBERS, barred=["ben"], links=[("cid", "ben", 0)])
        self.assertEqual(held_bound(house_of(turn("day", barred=["cid"], links=links), dear)), 0)

    def test_vote_bound(self):
        self.assertIsNone(vote_bound(house=house_of(turn("day"), turn("sale"))))
        self.assertIsNone(vote_bound(house_of(turn("day", barred=["ann"]))))
        self.assertIsNone(vote_bound(house_of(turn("day", barred=["ann"]), turn("sale", barred=["ann"]))))
        first = turn("day", deposit=5, fee=2, start=3)
        second = turn("sale", barred=["ann"], deposit=1, fee=7)
        # From day to sale: 5 and 4 ballots for 2 each, as sale stands later.
        self.assertEqual(vote_bound(house_of(first, second)), 5 + 2 * 4)
        self.assertEqual(vote_bound(house_of(second, first)), 5 + 2 * 3)
        # Each bars somebody whom the other one does not bar.
        third = turn("rest", barred=["cid"], deposit=1, fee=7)
        self.assertEqual(vote_bound(house_of(first, second, third)), 1 + 7)
        self.assertEqual(vote_bound(house_of(third, second, ballots=[(("sale",), 1)])), 1)

    def test_sure_price(self):
        house = house_of(turn("day", limit=2, deposit=9, barred=["cid"], links=[("ann", "cid", 7)]))
        self.assertEqual((passes_bound(house), held_bound(house), vote_bound(house), sure_price(house)), (9, 7, None, 7))
        house = house.changed(links=())
        self.assertEqual((passes_bound(house), held_bound(house), vote_bound(house), sure_price(house)), (9, None, None, 9))
        house = house_of(turn("day", limit=3, deposit=9), turn("sale", barred=["ann"], deposit=9))
        self.assertEqual((passes_bound(house), held_bound(house), vote_bound(house), sure_price(house)), (18, None, 10, 10))
        self.assertIsNone(sure_price(house=house_of(turn("day"))))

    def test_not_greater_than_the_price(self):
        chance = random.Random(450)
        equal = 0
        for house, _ in some_games(chance, 150, most=120):
            bounds = [passes_bound(house), held_bound(house), vote_bound(house)]
            self.assertEqual(sure_price(house), least(bounds))
            price = house_price(house)
            self.assertEqual(least([sure_price(house), price]), sure_price(house))
            equal += price == sure_price(house) and price not in (0, None)
        self.assertGreater(equal, 0)

    def test_longest_keeps_the_sure_price(self):
        chance = random.Random(451)
        several = 0
        for _ in range(100):
            names = some_names(chance, 3, 2)
            rules = [TurnRule(name, names, **some_parts(chance, names)) for name in some_names(chance, 2)]
            house = House(rules, some_book(chance, names))
            price = longest_price(house)
            self.assertEqual(least([sure_price(house), price]), sure_price(house))
            several += price not in (None, 0)
        self.assertGreater(several, 10)


class FullTest(Case):
    def rules(self):
        day = turn("day", limit=3, deposit=4, fee=2)
        hard = turn("hard", limit=2, deposit=4, fee=3, start=4, links=[("ann", "ben", 1)])
        return [day, hard]

    def test_full(self):
        house = house_of(*self.rules(), ballots=[(("day",), 2)])
        self.assertIs(is_full(house=house), True)
        # Two votes for 2 each and two late rounds, or none of the first and three late rounds.
        self.assertEqual(house.vote_price("day", "hard"), 6)
        self.assertEqual(full_price(house=house), 8)
        self.assertEqual(full_price(house), house_price(house))
        self.assertIs(is_full(house_of(turn("day"))), True)
        self.assertIsNone(full_price(house_of(turn("day"))))
        self.assertIsNone(house_price(house_of(turn("day"))))

    def test_roads(self):
        rules = [
            turn("day", deposit=9, fee=5, start=9), turn("sale", deposit=9, fee=1, start=9), turn("hard", deposit=9, limit=0, start=9),
        ]
        house = house_of(*rules, ballots=[(("day",), 2), (("sale",), 1)])
        straight = house.vote_price("day", "hard")
        turned = house.vote_price("day", "sale") + house.vote_price("sale", "hard")
        self.assertEqual((straight, turned), (60, 66))
        self.assertEqual(full_price(house), 60)
        cheap = house.with_rule(rules[1].changed(fee=0))
        self.assertEqual(full_price(cheap), 55)
        self.assertEqual(full_price(cheap), house_price(cheap))

    def test_each_part_of_full(self):
        rules = self.rules()
        ballots = [(("day",), 2)]
        members = tuple(MEMBERS)
        self.assertIs(is_full(House(rules, full_book(members), ballots)), True)
        one = House([turn("day", ["ann"], limit=3)], full_book(["ann"]))
        bid = House([BidRule("day", members, limit=3, deposit=4), rules[1]], full_book(members), ballots)
        others = [
            one, bid,
            House([rules[0].changed(deposit=5), rules[1]], full_book(members), ballots),
            House([rules[0], rules[1].changed(deposit=3)], full_book(members), ballots),
            House([rules[0], rules[1].changed(barred=["cid"])], full_book(members), ballots),
            House([rules[0].changed(barred=["cid"]), rules[1]], full_book(members), ballots),
            House([rules[0], rules[1].changed(start=2)], full_book(members), ballots),
            House(rules, full_book(members), [(("hard",), 1)]),
            House(rules, full_book(members, home=["mon"]), ballots),
            House(rules, Book(members, [("mon", [("ann", 0), ("ben", 0)], ["mon"])], ["mon"]), ballots),
            House(rules, Book(members, [("mon", [(member, 0) for member in members], [])], ["mon"]), ballots),
            House(rules, Book(members, [(name, [(member, 0) for member in members], ["mon"]) for name in ("mon", "tue")], ["mon"]), ballots),
            House(rules, Book(members, [("mon", [(member, 0) for member in members], ["mon", "tue"]), ("tue", [], [])], ["mon"]), ballots),
        ]
        for house in others:
            self.assertIs(is_full(house), False)
            self.fails(NotFull, {}, full_price, house)

    def test_price_of_full_houses(self):
        chance = random.Random(460)
        found = []
        while len(found) < 40:
            members = some_names(chance, 4, 2)
            deposit = chance.randint(0, 6)
            rules = [
                TurnRule(name, members, limit=chance.choice([None, 0, 1, 2, 3][: 7 - len(members)]), deposit=deposit,
                         fee=chance.randint(0, 3), start=chance.randint(1, 4))
                for name in some_names(chance, 3)
            ]
            names = [rule.name for rule in rules]
            house = House(rules, full_book(members), [((chance.choice(names),), chance.randint(0, 2)) for _ in range(2)])
            if not is_full(house):
                self.assertTrue(any(house.voted(name) != name for name in names))
                continue
            try:
                price = house_price(house)
            except TooLarge:
                continue
            self.assertEqual(full_price(house), price)
            found.append((len(rules), price))
        self.assertGreater(len([1 for size, price in found if size > 1 and price not in (0, None)]), 5)

    def test_random_houses_are_rarely_full(self):
        chance = random.Random(461)
        for _ in range(60):
            house = some_house(chance)
            self.assertEqual(is_full(house), self.is_full_by_hand(house))

    def is_full_by_hand(self, house):
        [*pages] = house.book
        return (
            len(house.members) > 1 and all(type(rule) is TurnRule and not rule.barred for rule in house.rules)
            and len({rule.deposit for rule in house.rules}) == 1 and all(house.voted(name) == name for name in house.names)
            and len(pages) == 1 and len(pages[0].wishers) == len(house.members) and len(pages[0].followers) == 1
            and not pages[0].home
        )


class BigHouseTest(Case):
    def test_bounds_do_not_look_at_standings(self):
        members = list("abcd")
        pages = [(name, [(member, 1) for member in members], ["p", "q", "r", "s"]) for name in "pqrs"]
        rules = [TurnRule(name, members, limit=3, deposit=10 ** 9) for name in ("day", "sale")]
        house = House([*rules, BidRule("rest", members, limit=3, guests=Guests([(5, 5)], 1))], Book(members, pages, ["p"]))
        self.fails(TooLarge, {}, house_price, house)
        self.assertEqual(sure_price(house), 0)
        self.assertEqual(sure_price(House(rules, Book(members, pages, ["p"]))), 10 ** 9)
        self.assertIs(is_full(house), False)


if __name__ == "__main__":
    unittest.main()
