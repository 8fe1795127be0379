"""Rules of both kinds [28, 29]; their lines are tested with the text of a house."""

import itertools
import random
import unittest

from helpers import Case
from making import some_book, some_guests, some_parts, some_rule
from turnsandkeys.errors import BadCount, BadName, BadNumber, DoubledName, UnknownName
from turnsandkeys.guests import Guests
from turnsandkeys.ladders import ladder, ladder_prices
from turnsandkeys.links import Links
from turnsandkeys.pages import Book
from turnsandkeys.rules import BidRule, Rule, TurnRule

MEMBERS = ["ann", "ben", "cid", "dan"]
LINKS = [("ann", "ben", 2), ("ben", "cid", 3), ("ann", "cid", 9), ("cid", "dan", 1)]
PARTS = {"limit": 2, "barred": ["dan", "ben"], "links": LINKS, "deposit": 7, "fee": 3, "start": 5}
BID_PARTS = {"weights": [1, 2, 3, 1000], "hours": 2, "guests": Guests([(10, 2)], 4), **PARTS}
GUESTS = Guests([(10, 2), (3, 1), (6, 3)], 4)
COINS = ["deposit", "fee", "start"]
BOTH = (TurnRule, BidRule)


def page_of(bids, members=MEMBERS):
    return Book(members, [("mon", bids, [])], ["mon"]).page("mon")


def hand_toll_by_hand(rule, giver, taker):
    """The least toll of all ways that pass nobody twice."""
    if giver == taker:
        return 0
    best = None
    for size in range(len(rule.members) - 1):
        for between in itertools.permutations([name for name in rule.members if name not in (giver, taker)], size):
            toll = 0
            for start, end in itertools.pairwise([giver, *between, taker]):
                steps = [cost for a, b, cost in rule.links if (a, b) == (start, end) and a not in rule.barred]
                toll = None if toll is None or not steps else toll + min(steps)
            if toll is not None and (best is None or toll < best):
                best = toll
    return best


class MakingTest(Case):
    def test_classes(self):
        self.assertEqual((TurnRule.__bases__, BidRule.__bases__), ((Rule,), (Rule,)))
        self.assertEqual((TurnRule.KIND, BidRule.KIND), ("turn", "bid"))
        for made in BOTH:
            self.assertLessEqual({"__init__", "__eq__", "KIND", "moves", "lets", "lines", "changed"}, set(vars(made)))
        self.assertLessEqual({"is_barred", "hand_toll", "barred_toll", "candidates"}, set(vars(Rule)))
        self.assertIsInstance(vars(BidRule)["floor"], property)

    def test_parameters(self):
        shared = ["limit=None", "barred=()", "links=()", "deposit=0", "fee=1", "start=0"]
        self.has_parameters(TurnRule, "name", "members", "*", *shared)
        self.has_parameters(BidRule, "name", "members", "*", "weights=None", "hours=1", "guests=None", *shared)
        self.has_parameters(Rule.is_barred, "self", "member")
        self.has_parameters(Rule.hand_toll, "self", "giver", "taker")
        self.has_parameters(Rule.barred_toll, "self", "member")
        self.has_parameters(Rule.candidates, "self", "page")
        for made in BOTH:
            self.has_parameters(made.moves, "self", "page")
            self.has_parameters(made.lets, "self", "page", "move")
            self.has_parameters(made.lines, "self")

    def test_parts_left_out(self):
        for made in BOTH:
            rule = made("day", MEMBERS)
            found = (rule.name, rule.members, rule.limit, rule.barred, rule.deposit, rule.fee, rule.start)
            self.assertEqual(found, ("day", tuple(MEMBERS), None, (), 0, 1, 0))
            self.assertEqual(rule.links, Links(MEMBERS))
        self.assertEqual((rule.weights, rule.hours, rule.guests, rule.floor), ((1, 1, 1, 1), 1, None, 0))

    def test_attributes(self):
        for rule in (TurnRule("day", MEMBERS, **PARTS), BidRule(name="day", members=tuple(MEMBERS), **BID_PARTS)):
            self.assertEqual((rule.name, rule.members, rule.limit), ("day", tuple(MEMBERS), 2))
            self.assertEqual((rule.deposit, rule.fee, rule.start), (7, 3, 5))
            self.assertEqual(rule.barred, ("ben", "dan"))
            self.assertIs(type(rule.links), Links)
            self.assertEqual(rule.links, Links(MEMBERS, LINKS))
        self.assertEqual((rule.weights, rule.hours), ((1, 2, 3, 1000), 2))
        self.assertEqual(rule.guests, Guests([(10, 2)], 4))
        self.assertEqual((rule.KIND, rule.floor), ("bid", 4))
        self.assertEqual(BidRule("day", MEMBERS, guests=GUESTS).floor, GUESTS.floor)

    def test_copies_and_keeps_lists(self):
        for made, parts in ((TurnRule, PARTS), (BidRule, BID_PARTS)):
            passed = {key: list(part) if isinstance(part, list) else part for key, part in parts.items()}
            members = list(MEMBERS)
            rule = made("day", members, **passed)
            self.assertEqual((members, passed), (MEMBERS, parts))
            members.clear()
            for part in passed.values():
                if isinstance(part, list):
                    part.clear()
            self.assertEqual(rule, made("day", MEMBERS, **parts))
            tuples = {key: tuple(part) if isinstance(part, list) else part for key, part in parts.items()}
            self.assertEqual(rule, made("day", tuple(MEMBERS), **tuples))

    def test_edges(self):
        for made in BOTH:
            for limit in (None, 0, 1, 2, 3):
                self.assertEqual(made("day", MEMBERS, limit=limit).limit, limit)
            rule = made("day", ["ann"], barred=["ann"], deposit=10 ** 9, fee=0, start=10 ** 9)
            self.assertEqual((rule.barred, rule.deposit, rule.fee, rule.start), (("ann",), 10 ** 9, 0, 10 ** 9))
            self.assertEqual(len(made("day", MEMBERS, links=[("ann", "ben", 0)] * 12).links), 12)
        self.assertEqual(BidRule("day", MEMBERS, weights=[1, 1000, 1, 1], hours=3).weights, (1, 1000, 1, 1))


class ChecksTest(Case):
    def wrong(self, error, told, *args, **parts):
        for made in BOTH:
            self.fails(error, told, made, *args, **parts)

    def test_shared_checks_in_order(self):
        bad = {"limit": 4, "barred": ["x"], "links": [("x", "y", -1)], "deposit": -1, "fee": -2, "start": -3}
        self.wrong(BadName, {"name": ""}, "", [], **bad)
        self.wrong(BadName, {"name": "Day"}, "Day", [], **bad)
        self.wrong(BadCount, {"size": 0}, "day", [], **bad)
        self.wrong(BadCount, {"size": 5}, "day", [*MEMBERS, ""], **bad)
        self.wrong(BadName, {"name": ""}, "day", ["ann", ""], **bad)
        self.wrong(DoubledName, {"name": "ann"}, "day", ["ann", "ann"], **bad)
        for limit in (4, -1, 10 ** 59, -(10 ** 59)):
            self.wrong(BadNumber, {"number": limit}, "day", MEMBERS, **{**bad, "limit": limit})
        bad["limit"] = None
        self.wrong(UnknownName, {"name": "x"}, "day", MEMBERS, **bad)
        self.wrong(UnknownName, {"name": ""}, "day", MEMBERS, **{**bad, "barred": ["ann", "", "ann"]})
        self.wrong(DoubledName, {"name": "ann"}, "day", MEMBERS, **{**bad, "barred": ["ann", "ben", "ann", "x"]})
        bad["barred"] = ()
        self.wrong(UnknownName, {"name": "x"}, "day", MEMBERS, **bad)
        self.wrong(UnknownName, {"name": "y"}, "day", MEMBERS, **{**bad, "links": [("ann", "y", -1)]})
        self.wrong(DoubledName, {"name": "ann"}, "day", MEMBERS, **{**bad, "links": [("ann", "ann", -1)]})
        self.wrong(BadCount, {"size": 13}, "day", MEMBERS, **{**bad, "links": [("x", "y", -1)] * 13})
        for toll in (-1, 10 ** 9 + 1):
            self.wrong(BadNumber, {"number": toll}, "day", MEMBERS, **{**bad, "links": [("ann", "ben", toll)]})
        bad["links"] = ()
        for key, good in (("deposit", 0), ("fee", 10 ** 9), ("start", 0)):
            for number in (-1, 10 ** 9 + 1, 10 ** 59):
                self.wrong(BadNumber, {"number": number}, "day", MEMBERS, **{**bad, key: number})
            bad[key] = good

    def test_bid_checks_in_order(self):
        for weights in ([], [0, 0, 0], [0] * 5):
            self.fails(BadCount, {"size": len(weights)}, BidRule, "day", MEMBERS, weights=weights, hours=0)
        for weight in (0, -1, 1001, 10 ** 59):
            self.fails(BadNumber, {"number": weight}, BidRule, "day", MEMBERS, weights=[1, weight, -5, 1], hours=0)
        for hours in (0, -1, 4, 10 ** 59):
            self.fails(BadNumber, {"number": hours}, BidRule, "day", MEMBERS, hours=hours)
        self.fails(BadNumber, {"number": -1}, BidRule, "day", MEMBERS, start=-1, weights=[], hours=0)

    def test_nothing_changes_after_an_error(self):
        barred, links, weights = ["ann"], list(LINKS), [1, 1, 1, 0]
        self.fails(
            BadNumber, {"number": 0}, BidRule, "day", MEMBERS, barred=barred, links=links, weights=weights
        )
        self.assertEqual((MEMBERS, barred, links, weights), (["ann", "ben", "cid", "dan"], ["ann"], LINKS, [1, 1, 1, 0]))


class TollsTest(Case):
    def test_is_barred(self):
        for made in BOTH:
            rule = made("day", MEMBERS, barred=["dan", "ben"])
            self.assertEqual([rule.is_barred(member=name) for name in MEMBERS], [False, True, False, True])
            for name in ("", "eve", "day"):
                self.fails(UnknownName, {"name": name}, rule.is_barred, name)

    def test_by_hand(self):
        for made in BOTH:
            rule = made("day", MEMBERS, links=LINKS)
            self.assertEqual([rule.hand_toll("ann", name) for name in MEMBERS], [0, 2, 5, 6])
            self.assertEqual([rule.hand_toll(giver="dan", taker=name) for name in MEMBERS], [None, None, None, 0])
            self.assertEqual([rule.barred_toll(name) for name in MEMBERS], [None] * 4)
            # A barred member hands nothing on.
            rule = made("day", MEMBERS, links=LINKS, barred=["ben"])
            self.assertEqual([rule.hand_toll("ann", name) for name in MEMBERS], [0, 2, 9, 10])
            self.assertEqual([rule.hand_toll("ben", name) for name in MEMBERS], [None, 0, None, None])
            self.assertEqual([rule.barred_toll(member=name) for name in MEMBERS], [2, 0, None, None])

    def test_at_random(self):
        chance = random.Random(290)
        for _ in range(150):
            members = MEMBERS[: chance.randint(1, 4)]
            rule = some_rule(chance, "day", members)
            for giver in members:
                tolls = [rule.hand_toll(giver, taker) for taker in members]
                self.assertEqual(tolls, [hand_toll_by_hand(rule, giver, taker) for taker in members])
                barred = [toll for taker, toll in zip(members, tolls) if taker in rule.barred and toll is not None]
                self.assertEqual(rule.barred_toll(giver), min(barred, default=None))

    def test_unknown_names(self):
        for made in BOTH:
            rule = made("day", MEMBERS, links=LINKS)
            for name in ("", "eve"):
                self.fails(UnknownName, {"name": name}, rule.barred_toll, name)
                self.fails(UnknownName, {"name": name}, rule.hand_toll, name, "x")
                self.fails(UnknownName, {"name": name}, rule.hand_toll, "ann", name)
                self.fails(UnknownName, {"name": name}, rule.hand_toll, name, name)


class LendingTest(Case):
    def test_candidates(self):
        page = page_of([("dan", 1), ("cid", 5), ("ann", 0)])
        for made in BOTH:
            self.assertEqual(made("day", MEMBERS).candidates(page), ("ann", "cid", "dan"))
            self.assertEqual(made("day", MEMBERS, barred=["cid", "ben"]).candidates(page=page), ("ann", "dan"))
            self.assertEqual(made("day", MEMBERS).candidates(page_of([])), ())

    def test_turns(self):
        rule = TurnRule("day", MEMBERS, barred=["cid"])
        page = page_of([("dan", 1), ("cid", 5), ("ann", 0)])
        self.assertEqual(rule.moves(page), ["ann", "dan", ""])
        self.assertEqual(rule.moves(page=page_of([])), [""])
        self.assertEqual(rule.lets(page, "dan"), [(("dan",), 0)])
        self.assertEqual(rule.lets(page=page, move=""), [((), 0)])
        self.is_new_list(lambda: rule.moves(page))
        self.is_new_list(lambda: rule.lets(page, "ann"))
        self.is_new_list(lambda: rule.lets(page, ""))

    def test_bids(self):
        page = page_of([("cid", 4), ("ben", 2), ("ann", 5)])
        rule = BidRule("day", MEMBERS, weights=[1, 2, 1, 9])
        self.assertEqual(rule.moves(page), [""])
        self.assertEqual(rule.lets(page, ""), [(("ann",), 0), (("ben",), 1), (("cid",), 2)])
        self.is_new_list(lambda: rule.moves(page))
        self.is_new_list(lambda: rule.lets(page, ""))
        rule = BidRule("day", MEMBERS, weights=[1, 2, 1, 9], barred=["ann"], hours=2)
        self.assertEqual(rule.lets(page=page, move=""), [(("ben", "cid"), 0), (("cid", "ben"), 1)])
        self.assertEqual(rule.lets(page_of([]), ""), [((), 0)])
        self.assertEqual(rule.lets(page_of([("ann", 3)]), ""), [((), 0)])

    def test_bids_and_guests(self):
        page = page_of([("ann", 3), ("ben", 1)])
        rule = BidRule("day", MEMBERS, guests=GUESTS, hours=3)
        self.assertEqual(rule.floor, 5)
        self.assertEqual(rule.lets(page, ""), [
            ((), 0), (("ann",), 2), (("ann", "ben"), 6), (("ben",), 4), (("ben", "ann"), 7),
        ])

    def test_bids_at_random(self):
        chance = random.Random(291)
        for _ in range(60):
            members = MEMBERS[: chance.randint(1, 4)]
            rule = BidRule(
                "day", members, weights=[chance.randint(1, 3) for _ in members], hours=chance.randint(1, 3),
                guests=chance.choice([None, some_guests(chance)]), **some_parts(chance, members)
            )
            for page in some_book(chance, members):
                bids = dict(page.bids)
                bidders = [
                    (name, weight, bids[name])
                    for name, weight in zip(members, rule.weights) if name in bids and name not in rule.barred
                ]
                expected = ladder_prices(bidders, hours=rule.hours, floor=rule.floor)
                self.assertEqual(rule.lets(page, ""), expected)
                free = [names for names, price in expected if price == 0]
                self.assertEqual(free, [ladder(bidders, hours=rule.hours, floor=rule.floor)])


class ChangedTest(Case):
    CHANGES = {
        "limit": [None, 0, 3], "barred": [(), ["ann"]], "links": [(), [("dan", "ann", 4)]],
        "deposit": [0, 10 ** 9], "fee": [0, 9], "start": [0, 9],
    }
    BID_CHANGES = {"weights": [[4, 3, 2, 1], None], "hours": [1, 3], "guests": [None, GUESTS]}

    def test_each_part(self):
        for made, parts, changes in ((TurnRule, PARTS, self.CHANGES), (BidRule, BID_PARTS, {**self.CHANGES, **self.BID_CHANGES})):
            rule = made("day", MEMBERS, **parts)
            for key, worths in changes.items():
                for worth in worths:
                    other = rule.changed(**{key: worth})
                    self.assertIs(type(other), made)
                    self.assertEqual(other, made("day", MEMBERS, **{**parts, key: worth}))
                    self.assertIs(other == rule, False)
            self.assertEqual(rule, made("day", MEMBERS, **parts))
            self.assertEqual(rule.changed(), rule)

    def test_several_parts(self):
        rule = TurnRule("day", MEMBERS, **PARTS)
        self.assertEqual(rule.changed(deposit=1, limit=None), TurnRule("day", MEMBERS, **{**PARTS, "deposit": 1, "limit": None}))
        rule = BidRule("day", MEMBERS).changed(hours=2, fee=4)
        self.assertEqual(rule, BidRule("day", MEMBERS, hours=2, fee=4))

    def test_checks(self):
        for made in BOTH:
            rule = made("day", MEMBERS, **PARTS)
            self.fails(BadNumber, {"number": 4}, rule.changed, limit=4, barred=["x"])
            self.fails(UnknownName, {"name": "x"}, rule.changed, deposit=-1, barred=["x"])
            self.fails(DoubledName, {"name": "ann"}, rule.changed, deposit=-1, links=[("ann", "ann", 0)])
            for key in COINS:
                self.fails(BadNumber, {"number": -1}, rule.changed, **{key: -1})
            self.assertEqual(rule, made("day", MEMBERS, **PARTS))
        rule = BidRule("day", MEMBERS)
        self.fails(BadCount, {"size": 3}, rule.changed, weights=[1, 1, 1])
        self.fails(BadNumber, {"number": 1001}, rule.changed, weights=[1, 1, 1001, 1])
        self.fails(BadNumber, {"number": 4}, rule.changed, hours=4)


class EqualityTest(Case):
    def test_one_thing_different(self):
        changes = {
            "limit": 1, "barred": ["dan"], "links": LINKS[:3], "deposit": 8, "fee": 4, "start": 6,
            "weights": [1, 2, 3, 4], "hours": 3, "guests": Guests([(10, 2)], 5),
        }
        for made, parts in ((TurnRule, PARTS), (BidRule, BID_PARTS)):
            rule = made("day", MEMBERS, **parts)
            self.assertIs(rule == made("day", tuple(MEMBERS), **parts), True)
            self.assertIs(rule == made("day", MEMBERS, **{**parts, "barred": ["ben", "dan"]}), True)
            self.assertIs(rule != made("day", MEMBERS, **parts), False)
            self.assertIs(rule == made("night", MEMBERS, **parts), False)
            for key in parts:
                self.assertIs(rule == made("day", MEMBERS, **{**parts, key: changes[key]}), False)
            others = ["dan", "cid", "ben", "ann"]
            self.assertIs(rule == made("day", others, **parts), False)
            for other in (None, 1, "day", tuple(MEMBERS), Links(MEMBERS, LINKS)):
                self.assertIs(rule == other, False)

    def test_classes(self):
        self.assertIs(TurnRule("day", MEMBERS) == BidRule("day", MEMBERS), False)
        self.assertIs(BidRule("day", MEMBERS) == TurnRule("day", MEMBERS), False)
        self.assertIs(BidRule("day", MEMBERS) == BidRule("day", MEMBERS, weights=[1] * 4), True)
        without = BidRule("day", MEMBERS)
        nothing = BidRule("day", MEMBERS, guests=Guests([], 1))
        self.assertIs(without == nothing, False)
        self.assertIs(nothing == without, False)


if __name__ == "__main__":
    unittest.main()
