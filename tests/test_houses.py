"""Houses [30, 31]."""

import random
import unittest

from ballots import all_ballots, order_by_hand, rolls_of_size
from helpers import Case
from making import some_house
from turnsandkeys.errors import BadCount, BadNumber, DoubledName, OtherNames, UnknownName
from turnsandkeys.houses import House
from turnsandkeys.pages import Book
from turnsandkeys.rolls import Roll
from turnsandkeys.rules import BidRule, TurnRule

MEMBERS = ["ann", "ben"]
BOOK = Book(MEMBERS, [("mon", [("ann", 0), ("ben", 0)], ["mon"])], ["mon"])
ENDED = Book(MEMBERS, [("mon", [("ann", 0), ("ben", 0)], [])], ["mon"])
DAY = TurnRule("day", MEMBERS, limit=2, deposit=3)
SALE = BidRule("sale", MEMBERS, fee=4)
HARD = TurnRule("hard", MEMBERS, limit=1, start=5)
ROWS = [(("day",), 2), (("hard", "sale"), 1)]


class MakingTest(Case):
    def test_attributes(self):
        house = House([DAY, SALE, HARD], BOOK, ROWS)
        self.assertEqual((house.members, house.names), (("ann", "ben"), ("day", "sale", "hard")))
        self.assertIs(type(house.rules), tuple)
        self.assertEqual(house.rules, (DAY, SALE, HARD))
        self.assertEqual(house.book, BOOK)
        self.assertIs(type(house.roll), Roll)
        self.assertEqual(house.roll, Roll(["day", "sale", "hard"], ROWS))
        self.assertEqual(House([DAY], BOOK).roll, Roll(["day"]))

    def test_parameters(self):
        self.has_parameters(House, "rules", "book", "ballots=()")
        self.has_parameters(House.rule, "self", "name")
        self.has_parameters(House.roll_under, "self", "name")
        self.has_parameters(House.voted, "self", "name")
        self.has_parameters(House.vote_price, "self", "name", "other")
        self.has_parameters(House.with_rule, "self", "rule")
        self.has_parameters(House.with_book, "self", "book")
        self.has_parameters(House.alone, "self", "name")
        house = House(rules=(DAY, SALE), book=BOOK, ballots=((("day",), 2),))
        self.assertEqual(house, House([DAY, SALE], BOOK, [(("day",), 2)]))

    def test_most(self):
        self.assertEqual(House([SALE], BOOK).most, 0)
        self.assertEqual(House([SALE, DAY], BOOK).most, 2)
        self.assertEqual(House([HARD, DAY, SALE], BOOK).most, 2)
        self.assertEqual(House([DAY.changed(limit=0)], BOOK).most, 0)
        self.assertEqual(House([DAY.changed(limit=3), HARD], BOOK).most, 3)

    def test_copies_and_keeps_lists(self):
        rules, rows = [DAY, SALE], [(("day",), 2)]
        house = House(rules, BOOK, rows)
        self.assertEqual((rules, rows), ([DAY, SALE], [(("day",), 2)]))
        rules.reverse()
        rows.append(((), 7))
        self.assertEqual(house, House([DAY, SALE], BOOK, [(("day",), 2)]))

    def test_checks_in_order(self):
        other = TurnRule("day", ["ben", "ann"])
        bad = [(("x",), -1)]
        self.fails(BadCount, {"size": 0}, House, [], BOOK, bad)
        self.fails(BadCount, {"size": 4}, House, [other, DAY, DAY, DAY], BOOK, bad)
        for members in (["ben", "ann"], ["ann"], ["ann", "ben", "cid"], ["ann", "cid"]):
            wrong = TurnRule("day", members)
            self.fails(OtherNames, {}, House, [wrong], BOOK, bad)
            self.fails(OtherNames, {}, House, [DAY, wrong, DAY], BOOK, bad)
        self.fails(DoubledName, {"name": "day"}, House, [DAY, DAY, other], BOOK, bad)
        self.fails(DoubledName, {"name": "day"}, House, [DAY, SALE, BidRule("day", MEMBERS)], BOOK, bad)
        self.fails(UnknownName, {"name": "x"}, House, [DAY, SALE], BOOK, bad)
        self.fails(DoubledName, {"name": "day"}, House, [DAY], BOOK, [((), 1), (("day", "day"), -1)])
        for many in (-1, 10 ** 9 + 1):
            self.fails(BadNumber, {"number": many}, House, [DAY], BOOK, [(("day",), many), (("x",), 1)])

    def test_equality(self):
        house = House([DAY, SALE], BOOK, ROWS[:1])
        self.assertIs(house == House((DAY, SALE), BOOK, [(("day",), 1), (("day",), 1)]), True)
        self.assertIs(house != House([DAY, SALE], BOOK, ROWS[:1]), False)
        others = [
            House([SALE, DAY], BOOK, ROWS[:1]), House([DAY], BOOK, ROWS[:1]), House([DAY, SALE, HARD], BOOK, ROWS[:1]),
            House([DAY.changed(fee=2), SALE], BOOK, ROWS[:1]), House([DAY, SALE], ENDED, ROWS[:1]),
            House([DAY, SALE], BOOK), House([DAY, SALE], BOOK, [(("day",), 3)]),
        ]
        for other in [*others, None, 5, "house", (DAY, SALE), DAY, BOOK]:
            self.assertIs(house == other, False)

    def test_members_rules_and_pages_with_the_same_names(self):
        book = Book(["day"], [("day", [("day", 1)], ["day"])], ["day"])
        house = House([TurnRule("day", ["day"])], book, [(("day",), 1)])
        self.assertEqual((house.members, house.names, house.book.names), (("day",), ("day",), ("day",)))


class VotesTest(Case):
    def test_rule(self):
        house = House([DAY, SALE, HARD], BOOK, ROWS)
        self.assertEqual([house.rule(name) for name in house.names], [DAY, SALE, HARD])
        self.assertEqual(house.rule(name="sale"), SALE)

    def test_roll_under(self):
        house = House([DAY, SALE, HARD], BOOK, ROWS)
        self.assertEqual(house.roll_under("day"), house.roll)
        self.assertEqual(house.roll_under(name="hard"), Roll(house.names, [*ROWS, (("hard",), 5)]))
        self.assertEqual(house.roll, Roll(house.names, ROWS))

    def test_head_starts(self):
        house = House([DAY, SALE, HARD], BOOK, ROWS)
        self.assertEqual([house.voted(name) for name in house.names], ["day", "day", "hard"])
        # Under `hard` it wins anyway; `day` lacks 4 ballots to be equal, and stands earlier; `sale` lacks 7.
        self.assertEqual([house.vote_price("hard", name) for name in house.names], [4, 6, 0])
        # The fee of `sale` is 4.
        self.assertEqual([house.vote_price("sale", name) for name in house.names], [0, 8, 8])
        self.assertEqual(house.vote_price(name="day", other="hard"), 2)

    def test_against_all_ballots(self):
        chance = random.Random(310)
        for _ in range(60):
            house = some_house(chance)
            for name in house.names:
                rule = house.rule(name)
                roll = house.roll_under(name)
                self.assertEqual(roll, house.roll + Roll.of(house.names, (name,), many=rule.start))
                left = [option for option in house.names if option not in order_by_hand(roll)]
                self.assertEqual([house.voted(name)], left)
                self.assertEqual(house.vote_price(name, left[0]), 0)

    def test_least_ballots(self):
        chance = random.Random(311)
        for _ in range(12):
            names = ["day", "sale", "hard"][: chance.randint(2, 3)]
            rules = [TurnRule(name, MEMBERS, fee=chance.randint(0, 3), start=chance.randint(0, 2)) for name in names]
            house = House(rules, BOOK, [(chance.choice(all_ballots(names)), 1) for _ in range(2)])
            for name in names:
                for other in names:
                    sizes = [size for size in range(4) if self.can_win(house.roll_under(name), other, size)]
                    if sizes:
                        self.assertEqual(house.vote_price(name, other), house.rule(name).fee * sizes[0])

    def can_win(self, roll, option, size):
        return any(option not in order_by_hand(roll + more) for more in rolls_of_size(roll.options, size))

    def test_unknown_names(self):
        house = House([DAY, SALE], BOOK, ROWS[:1])
        for call in (house.rule, house.roll_under, house.voted, house.alone):
            for name in ("", "hard", "mon", "ann"):
                self.fails(UnknownName, {"name": name}, call, name)
        self.fails(UnknownName, {"name": "x"}, house.vote_price, "x", "y")
        self.fails(UnknownName, {"name": "y"}, house.vote_price, "day", "y")
        self.fails(UnknownName, {"name": "x"}, house.vote_price, "x", "day")


class ChangedTest(Case):
    def test_changed(self):
        house = House([DAY, SALE], BOOK, ROWS[:1])
        other = house.changed(limit=1, deposit=9)
        self.assertEqual(other, House([DAY.changed(limit=1, deposit=9), SALE.changed(limit=1, deposit=9)], BOOK, ROWS[:1]))
        self.assertEqual(other.most, 1)
        self.assertEqual(house, House([DAY, SALE], BOOK, ROWS[:1]))
        self.assertEqual(house.changed(), house)
        self.assertEqual(house.changed(fee=5).vote_price("day", "sale"), 15)
        self.assertEqual(house.changed(barred=["ben"]).rule("sale").barred, ("ben",))
        self.assertEqual(house.changed(links=[("ann", "ben", 1)]).rule("day").hand_toll("ann", "ben"), 1)

    def test_wrong_changes(self):
        house = House([DAY, SALE], BOOK, ROWS[:1])
        self.fails(BadNumber, {"number": 4}, house.changed, limit=4, deposit=-1)
        self.fails(BadNumber, {"number": -1}, house.changed, deposit=-1)
        self.fails(UnknownName, {"name": "x"}, house.changed, barred=["x"])
        self.assertEqual(house, House([DAY, SALE], BOOK, ROWS[:1]))

    def test_with_rule(self):
        house = House([DAY, SALE], BOOK, ROWS[:1])
        other = BidRule("day", MEMBERS, hours=2)
        self.assertEqual(house.with_rule(other), House([other, SALE], BOOK, ROWS[:1]))
        self.assertEqual(house.with_rule(rule=SALE.changed(fee=0)), House([DAY, SALE.changed(fee=0)], BOOK, ROWS[:1]))
        self.assertEqual(house, House([DAY, SALE], BOOK, ROWS[:1]))
        self.fails(UnknownName, {"name": "x"}, house.with_rule, TurnRule("x", ["ben", "ann"]))
        self.fails(OtherNames, {}, house.with_rule, TurnRule("day", ["ben", "ann"]))
        self.fails(OtherNames, {}, house.with_rule, TurnRule("sale", ["ann"]))

    def test_with_book(self):
        house = House([DAY, SALE], BOOK, ROWS[:1])
        self.assertEqual(house.with_book(ENDED), House([DAY, SALE], ENDED, ROWS[:1]))
        self.assertEqual(house.with_book(book=BOOK), house)
        for members in (["ben", "ann"], ["ann"], ["ann", "ben", "cid"]):
            self.fails(OtherNames, {}, house.with_book, Book(members, [("mon", [], [])], ["mon"]))
        self.assertEqual(house.book, BOOK)

    def test_alone(self):
        house = House([DAY, SALE, HARD], BOOK, ROWS)
        self.assertEqual(house.alone("sale"), House([SALE], BOOK))
        self.assertEqual(house.alone(name="hard"), House([HARD], BOOK))
        self.assertEqual(house.alone("hard").vote_price("hard", "hard"), 0)

    def test_great_counts_are_kept(self):
        great = 2 * 10 ** 9 + 2
        house = House([DAY, SALE], BOOK, [(("day",), 10 ** 9), *ROWS[:1], (("day",), 10 ** 9)])
        for other in (house.changed(fee=2), house.with_rule(SALE.changed(fee=1)), house.with_book(ENDED)):
            self.assertEqual(list(other.roll), [(("day",), great)])
            self.assertEqual(other.roll.total, great)
        self.assertEqual(house.changed(fee=2).vote_price("day", "sale"), 2 * (great + 1))
        self.assertEqual(house.changed().changed(fee=3).vote_price("sale", "sale"), 3 * (great + 1))
        self.assertEqual(house.with_book(ENDED).with_rule(DAY).with_book(BOOK), house)
        self.assertEqual(house.alone("day").roll.total, 0)


if __name__ == "__main__":
    unittest.main()
