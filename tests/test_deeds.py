"""Deeds and their outcomes [36 to 38]."""

import random
import unittest

from helpers import Case
from making import some_house
from rounds import all_deeds, outcome_by_hand, outcomes_by_hand, standings_by_hand
from turnsandkeys.deeds import outcome, outcomes
from turnsandkeys.errors import BadStanding, NoDeed, NoMove
from turnsandkeys.houses import House
from turnsandkeys.pages import Book
from turnsandkeys.rules import BidRule, TurnRule
from turnsandkeys.standings import first_standings, moves

MEMBERS = ["ann", "ben"]
BIDS = [("ann", 5), ("ben", 3)]


def some_standings(chance, house, number):
    """Some standings that can come."""
    found = standings_by_hand(house, first_standings(house))[:200]
    return chance.sample(found, min(number, len(found)))


def one_page(rules, followers=("mon",), home=(), ballots=(), members=MEMBERS, bids=BIDS):
    return House(rules, Book(members, [("mon", bids, followers)], ["mon"], home=home), ballots)


class OutcomesTest(Case):
    def test_parameters(self):
        self.has_parameters(outcomes, "house", "standing", "move")
        self.has_parameters(outcome, "house", "standing", "move", "deed")
        house = one_page([TurnRule("day", MEMBERS)])
        standing = ("mon", "day", "", (0, 0))
        self.is_new_list(lambda: outcomes(house=house, standing=standing, move="ann"))
        deed = (("ann",), "ann", "day", "mon")
        found = outcome(house=house, standing=standing, move="ann", deed=deed)
        self.assertEqual(found, (0, None, ("mon", "day", "ann", (0, 0))))
        self.assertIs(type(found), tuple)

    def test_turns(self):
        house = one_page([TurnRule("day", MEMBERS, limit=1, deposit=3, links=[("ann", "ben", 2)])])
        standing = ("mon", "day", "", (0, 0))
        self.assertEqual(outcomes(house, standing, "ann"), [
            ((("ann",), "", "day", "mon"), 0, None, ("mon", "day", "", (0, 1))),
            ((("ann",), "ann", "day", "mon"), 3, None, ("mon", "day", "ann", (0, 1))),
            ((("ann",), "ben", "day", "mon"), 5, None, ("mon", "day", "ben", (0, 1))),
        ])
        self.assertEqual(outcomes(house, standing, ""), [(((), "", "day", "mon"), 0, None, ("mon", "day", "", (1, 1)))])
        # Whoever keeps the key late is not passed over.
        late = ("mon", "day", "ann", (0, 1))
        self.assertEqual(outcomes(house, late, ""), [(((), "", "", ""), 0, ("passed", "ben"), None)])
        late = ("mon", "day", "ben", (0, 1))
        self.assertEqual([row[0] for row in outcomes(house, late, "")], [
            ((), "", "day", "mon"), ((), "ben", "day", "mon"),
        ])
        self.assertEqual(outcomes(house, late, "")[1][1:], (3, None, ("mon", "day", "ben", (1, 0))))

    def test_limit_that_is_reached(self):
        house = one_page([TurnRule("day", MEMBERS, limit=2)])
        standing = ("mon", "day", "", (2, 2))
        self.assertEqual(outcomes(house, standing, "ann"), [((("ann",), "", "", ""), 0, ("passed", "ben"), None)])
        self.assertEqual(outcomes(house, standing, "ben"), [((("ben",), "", "", ""), 0, ("passed", "ann"), None)])
        self.assertEqual(outcomes(house, standing, ""), [(((), "", "", ""), 0, ("passed", "ann"), None)])

    def test_the_limit_of_the_rule_in_force_counts(self):
        house = one_page([TurnRule("day", MEMBERS, limit=0), TurnRule("sale", MEMBERS, limit=2)])
        found = outcomes(house, ("mon", "day", "", (0, 0)), "ann")
        self.assertEqual(found, [((("ann",), "", "", ""), 0, ("passed", "ben"), None)])
        # Passes stay at most as great as the greatest limit.
        house = one_page([TurnRule("day", MEMBERS), TurnRule("sale", MEMBERS, limit=2)])
        found = outcomes(house, ("mon", "day", "", (2, 1)), "")
        self.assertEqual([after for _, _, _, after in found], [("mon", "day", "", (2, 2)), ("mon", "sale", "", (2, 2))])

    def test_bids(self):
        house = one_page([BidRule("sale", MEMBERS, limit=1, deposit=7)])
        standing = ("mon", "sale", "", (0, 0))
        self.assertEqual([row[:2] for row in outcomes(house, standing, "")], [
            ((("ann",), "", "sale", "mon"), 0), ((("ann",), "ann", "sale", "mon"), 7),
            ((("ben",), "", "sale", "mon"), 3), ((("ben",), "ben", "sale", "mon"), 10),
        ])
        self.assertEqual(outcomes(house, ("mon", "sale", "", (1, 0)), "")[-1], (
            (("ben",), "", "", ""), 3, ("passed", "ann"), None,
        ))

    def test_the_last_taker_hands_on(self):
        members = ["ann", "ben", "cid"]
        rule = BidRule("sale", members, hours=2, links=[("ann", "cid", 1), ("ben", "cid", 4)], barred=["cid"])
        house = one_page([rule], members=members)
        found = [row[:3] for row in outcomes(house, ("mon", "sale", "", (0, 0, 0)), "") if row[2]]
        self.assertEqual(found, [
            ((("ann", "ben"), "cid", "", ""), 4, ("held", "cid")),
            ((("ben", "ann"), "cid", "", ""), 4, ("held", "cid")),
        ])

    def test_home_page(self):
        house = one_page([TurnRule("day", MEMBERS, barred=["ben"], links=[("ann", "ben", 2)])], home=["mon"])
        self.assertEqual(outcomes(house, ("mon", "day", "", (0, 0)), "ann"), [
            ((("ann",), "", "day", "mon"), 0, None, ("mon", "day", "", (0, 0))),
            ((("ann",), "ben", "", ""), 2, ("held", "ben"), None),
        ])

    def test_page_without_followers(self):
        house = one_page([TurnRule("day", MEMBERS, limit=0, barred=["ben"], links=[("ann", "ben", 2)])], followers=())
        self.assertEqual(outcomes(house, ("mon", "day", "", (0, 0)), "ann"), [((("ann",), "ben", "", ""), 2, ("held", "ben"), None)])
        self.assertEqual(outcomes(house, ("mon", "day", "", (0, 0)), ""), [(((), "", "", ""), 0, ("passed", "ann"), None)])
        house = house.changed(links=())
        self.assertEqual(outcomes(house, ("mon", "day", "", (0, 0)), "ann"), [])

    def test_votes(self):
        rules = [TurnRule("day", MEMBERS, fee=2, deposit=1, start=1), TurnRule("hard", MEMBERS, barred=["ann"], fee=5)]
        house = one_page(rules, followers=["mon"], ballots=[(("day",), 1)])
        found = outcomes(house, ("mon", "day", "", (0, 0)), "ann")
        self.assertEqual(found, [
            ((("ann",), "", "day", "mon"), 0, None, ("mon", "day", "", (0, 0))),
            ((("ann",), "", "hard", "mon"), 6, None, ("mon", "hard", "", (0, 0))),
            ((("ann",), "ann", "day", "mon"), 1, None, ("mon", "day", "ann", (0, 0))),
            ((("ann",), "ann", "hard", ""), 7, ("held", "ann"), None),
        ])

    def test_free_and_impossible_handing_on(self):
        house = one_page([TurnRule("day", MEMBERS, links=[("ann", "ben", 0)], deposit=4)])
        found = outcomes(house, ("mon", "day", "", (0, 0)), "ann")
        self.assertEqual([row[:2] for row in found if row[0][1] == "ben"], [((("ann",), "ben", "day", "mon"), 4)])
        found = outcomes(house, ("mon", "day", "", (0, 0)), "ben")
        self.assertEqual([row[0][1] for row in found], ["", "ben"])

    def test_against_all_deeds(self):
        chance = random.Random(380)
        seen = set()
        for _ in range(100):
            house = some_house(chance)
            for standing in some_standings(chance, house, 5):
                for move in moves(house, standing):
                    found = outcomes(house, standing, move)
                    self.assertEqual(found, outcomes_by_hand(house, standing, move))
                    for deed, price, fault, after in found:
                        self.assertEqual((type(deed), type(price)), (tuple, int))
                        seen.add((house.rule(standing[1]).KIND, standing[2] != "", fault and fault[0], deed[2] != ""))
        # Every kind of outcome has come under both kinds of rules, with and without a keeper.
        self.assertEqual(len(seen), 2 * 2 * 4)


class OutcomeTest(Case):
    def test_every_deed(self):
        chance = random.Random(381)
        for _ in range(12):
            house = some_house(chance, members=2, rules=2, pages=2)
            for standing in some_standings(chance, house, 3):
                for move in moves(house, standing):
                    possible = {row[0]: row[1:] for row in outcomes(house, standing, move)}
                    for deed in all_deeds(house):
                        if deed in possible:
                            self.assertEqual(outcome(house, standing, move, deed), possible[deed])
                        else:
                            self.assertIsNone(outcome_by_hand(house, standing, move, deed))
                            self.fails(NoDeed, {"deed": deed}, outcome, house, standing, move, deed)

    def test_deeds_that_differ_in_one_part(self):
        house = one_page([TurnRule("day", MEMBERS), TurnRule("hard", MEMBERS)])
        standing = ("mon", "day", "", (0, 0))
        self.assertEqual(outcome(house, standing, "ann", (("ann",), "ann", "hard", "mon"))[0], 1)
        wrong = [
            ((), "ann", "hard", "mon"), (("ben",), "ann", "hard", "mon"), (("ann", "ann"), "ann", "hard", "mon"),
            (("ann",), "ben", "hard", "mon"), (("ann",), "cid", "hard", "mon"), (("ann",), "ann", "", "mon"),
            (("ann",), "ann", "sale", "mon"), (("ann",), "ann", "hard", ""), (("ann",), "ann", "hard", "tue"),
            (("ann",), "ann", "", ""), (("ann",), "", "", ""), ((), "", "", ""),
        ]
        for deed in wrong:
            self.fails(NoDeed, {"deed": deed}, outcome, house, standing, "ann", deed)

    def test_errors_in_order(self):
        house = one_page([TurnRule("day", MEMBERS, barred=["ben"])])
        wrong = (("ben",), "x", "", "")
        for standing in (("mon", "day", "ben", (0, 0)), ("tue", "day", "", (0, 0)), ("mon", "day", "", (0, 1))):
            self.fails(BadStanding, {"standing": standing}, outcomes, house, standing, "x")
            self.fails(BadStanding, {"standing": standing}, outcome, house, standing, "x", wrong)
        standing = ("mon", "day", "", (0, 0))
        for move in ("ben", "x", "mon"):
            self.fails(NoMove, {"move": move}, outcomes, house, standing, move)
            self.fails(NoMove, {"move": move}, outcome, house, standing, move, wrong)
        self.fails(NoMove, {"move": "ann"}, outcomes, house, ("mon", "day", "ann", (0, 0)), "ann")
        self.fails(NoDeed, {"deed": wrong}, outcome, house, standing, "ann", wrong)
        bids = one_page([BidRule("day", MEMBERS)])
        self.fails(NoMove, {"move": "ann"}, outcomes, bids, standing, "ann")


if __name__ == "__main__":
    unittest.main()
