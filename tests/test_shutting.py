"""Shutting links, and guarding barred members [56]."""

import itertools
import random
import unittest

from helpers import Case
from making import day_book, some_house, some_links
from rounds import some_games
from test_games import FOUR, large_house
from turnsandkeys.errors import BadCount, BadNumber, TooLarge, UnknownName
from turnsandkeys.games import house_price
from turnsandkeys.houses import House
from turnsandkeys.least import Least
from turnsandkeys.pages import Book
from turnsandkeys.papers import Plan, Table, decide
from turnsandkeys.raising import least_raising
from turnsandkeys.rules import BidRule, TurnRule
from turnsandkeys.shutting import fewest_shut, guarded

MEMBERS = ["ann", "ben", "cid"]
BOOK = Book(MEMBERS, [("mon", [("ann", 0), ("ben", 0)], ["mon"])], ["mon"])
LINKS = [("ann", "cid", 1), ("ann", "ben", 1), ("ben", "cid", 3), ("ann", "cid", 9)]


def one_rule(links, **parts):
    return House([TurnRule("day", MEMBERS, barred=["cid"], links=links, **parts)], BOOK)


def without(house, name, numbers):
    rule = house.rule(name)
    links = [link for number, link in enumerate(rule.links) if number not in numbers]
    return house.with_rule(rule.changed(links=links))


class ShutTest(Case):
    def judge(self, house, name, price):
        found = fewest_shut(house, name, price)
        self.assertIs(type(found), Least)
        size = len(house.rule(name).links)
        tuples = [numbers for many in range(size + 1) for numbers in itertools.combinations(range(size), many)]
        prices = [house_price(without(house, name, numbers)) for numbers in tuples]
        enough = [at for at, found_price in enumerate(prices) if found_price is None or found_price >= price]
        at = enough[0] if enough else len(tuples)
        self.assertEqual(found.number, tuples[at] if enough else None)
        if enough:
            self.is_paper(found.table, Table, without(house, name, tuples[at]), price)
        else:
            self.assertIsNone(found.table)
        self.assertEqual((type(found.plans), len(found.plans)), (tuple, at))
        for numbers, plan in zip(tuples, found.plans):
            self.is_paper(plan, Plan, without(house, name, numbers), price)
        return found

    def is_paper(self, paper, kind, house, price):
        expected = decide(house, price - 1)
        self.assertIs(type(paper), kind)
        self.assertEqual((paper.house, paper.price, paper.rows()), (house, expected.price, expected.rows()))

    def test_by_hand(self):
        self.has_parameters(fewest_shut, "house", "name", "price")
        house = one_rule(LINKS)
        # The house can lend to nobody, so all promises that it gives are kept.
        self.assertIsNone(house_price(house))
        house = one_rule(LINKS, limit=0).with_book(Book(MEMBERS, [("mon", [("ann", 0)], ["mon"])], ["mon"]))
        self.assertEqual(house_price(house), 1)
        sale = House([BidRule("day", MEMBERS, barred=["cid"], links=LINKS)], Book(MEMBERS, [("mon", [("ann", 0)], ["mon"])], ["mon"]))
        self.assertEqual([house_price(without(sale, "day", numbers)) for numbers in ((), (0,), (0, 1), (0, 3))], [1, 4, 9, 4])
        for price, numbers in ((1, ()), (2, (0,)), (4, (0,)), (5, (0, 1)), (9, (0, 1)), (10, (0, 1, 3))):
            self.assertEqual(self.judge(sale, "day", price).number, numbers)
        found = fewest_shut(house=sale, name="day", price=2)
        self.assertEqual((found.table.price, [plan.price for plan in found.plans]), (4, [1]))
        self.keeps_arguments(fewest_shut, sale, "day", 5)

    def test_0_to_4_links_and_5(self):
        chance = random.Random(560)
        for size in range(5):
            for _ in range(4):
                links = [(*chance.sample(MEMBERS, 2), chance.randint(0, 3)) for _ in range(size)]
                house = House([BidRule("sale", MEMBERS, barred=["cid"], links=links, deposit=1)], BOOK)
                self.judge(house, "sale", chance.randint(1, 6))
        five = one_rule([*LINKS, ("ben", "cid", 1)])
        self.fails(BadCount, {"size": 5}, fewest_shut, five, "day", 1)
        many = one_rule([("ann", "ben", 1)] * 12)
        self.fails(BadCount, {"size": 12}, fewest_shut, many, "day", 1)
        # Only the links of this one rule are counted.
        both = House([five.rules[0], TurnRule("free", MEMBERS)], BOOK)
        self.assertEqual(fewest_shut(both, "free", 10 ** 59).number, None if house_price(both) is not None else ())

    def test_none(self):
        house = House([BidRule("sale", MEMBERS, limit=0, links=LINKS)], BOOK)
        found = self.judge(house, "sale", 1)
        self.assertEqual((found.number, found.table, len(found.plans)), (None, None, 16))

    def test_at_random(self):
        chance = random.Random(561)
        seen = set()
        for house, _ in some_games(chance, 150, most=20):
            name = chance.choice(house.names)
            try:
                found = self.judge(house, name, chance.randint(1, 6))
            except TooLarge:
                continue
            seen.add(found.number if found.number is None else len(found.number))
        self.assertLessEqual({None, 0, 1}, seen)

    def test_errors_in_order(self):
        five = one_rule([*LINKS, ("ben", "cid", 1)])
        for name in ("x", "mon", "ann", ""):
            self.fails(UnknownName, {"name": name}, fewest_shut, five, name, 0)
        for price in (0, -1, -(10 ** 59)):
            self.fails(BadNumber, {"number": price}, fewest_shut, five, "day", price)
        large = large_house("p", "s")
        self.fails(TooLarge, {}, fewest_shut, large, "day", 1)
        rule = large.rules[0]
        more = large.with_rule(rule.changed(links=[("a", "b", 1)] * 5))
        self.fails(BadCount, {"size": 5}, fewest_shut, more, "day", 1)
        self.assertEqual(rule.members, tuple(FOUR))


class GuardedTest(Case):
    def test_by_hand(self):
        self.has_parameters(guarded, "house", "name", "price")
        house = one_rule(LINKS, limit=2, fee=7)
        changed, total = guarded(house=house, name="day", price=5)
        self.assertEqual(total, 4 + 2)
        self.assertEqual([changed.rules[0].barred_toll(member) for member in ("ann", "ben")], [5, 5])
        self.assertEqual([toll for _, _, toll in changed.rules[0].links], [5, 1, 5, 9])
        self.assertEqual(changed, house.with_rule(house.rules[0].changed(links=changed.rules[0].links.links)))
        found = guarded(house, "day", 0)
        self.assertEqual((type(found), found), (tuple, (house, 0)))
        self.keeps_arguments(guarded, house, "day", 9)

    def test_nobody_or_all_barred(self):
        for barred in ([], MEMBERS):
            house = House([TurnRule("day", MEMBERS, barred=barred, links=LINKS)], BOOK)
            for price in (0, 5, 10 ** 9):
                self.assertEqual(guarded(house, "day", price), (house, 0))

    def test_great_prices(self):
        changed, total = guarded(one_rule([("ann", "cid", 10 ** 9), ("ben", "cid", 3)]), "day", 10 ** 9)
        self.assertEqual((total, changed.rules[0].barred_toll("ben")), (10 ** 9 - 3, 10 ** 9))

    def test_at_random(self):
        chance = random.Random(562)
        for _ in range(150):
            house = some_house(chance, members=4)
            rule = chance.choice(house.rules)
            house = house.with_rule(rule.changed(links=some_links(chance, list(house.members), most=12)))
            rule = house.rule(rule.name)
            price = chance.randint(0, 9)
            changed, total = guarded(house, rule.name, price)
            free = [member for member in house.members if member not in rule.barred]
            self.assertEqual(total, least_raising(rule.links, free, rule.barred, price).total)
            later = changed.rule(rule.name)
            self.assertEqual(changed.with_rule(rule), house)
            raises = []
            for (giver, taker, toll), (other, end, more) in zip(rule.links, later.links):
                self.assertEqual((giver, taker), (other, end))
                raises.append(more - toll)
            self.assertEqual((sum(raises), min(raises, default=0) >= 0), (total, True))
            for member in free:
                toll = later.barred_toll(member)
                self.assertTrue(toll is None or toll >= price)

    def test_errors_in_order(self):
        house = one_rule(LINKS)
        for name in ("x", "mon", "ann", ""):
            self.fails(UnknownName, {"name": name}, guarded, house, name, -1)
        for price in (-1, 10 ** 9 + 1, 10 ** 59):
            self.fails(BadNumber, {"number": price}, guarded, house, "day", price)
        many = House([TurnRule("day", MEMBERS, links=LINKS * 3)], day_book_of_three())
        self.assertEqual(guarded(many, "day", 4), (many, 0))


def day_book_of_three():
    pages = [(page.name, page.bids, page.followers) for page in day_book()]
    return Book(MEMBERS, pages, ["mon"])


if __name__ == "__main__":
    unittest.main()
