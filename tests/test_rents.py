"""Hours with rates that fall [20]."""

import itertools
import random
import unittest

from helpers import Case
from turnsandkeys.errors import BadCount, BadName, BadNumber
from turnsandkeys.ladders import ladder
from turnsandkeys.rents import Allotment, dearest

BIDDERS = [("ann", 1, 5), ("ben", 2, 2), ("cid", 1, 4)]


def greatest_total(bidders, rates, floor):
    """The greatest sum of all ways to give the hours to different bidders and to guests."""
    strengths = [weight * bid for _, weight, bid in bidders]
    best = 0
    for places in itertools.product([None, *range(len(bidders))], repeat=len(rates)):
        given = [at for at in places if at is not None]
        if len(given) == len(set(given)):
            worths = [floor if at is None else strengths[at] for at in places]
            best = max(best, sum(rate * worth for rate, worth in zip(rates, worths)))
    return best


def are_rents(bidders, rates, floor, takers, rents):
    """True if the rents have the three properties of the point."""
    for name, weight, bid in bidders:
        gains = [rate * weight * bid - rent for rate, rent in zip(rates, rents)]
        if name in takers:
            own = gains[takers.index(name)]
            if own < 0 or own < max(gains):
                return False
        elif max(gains) > 0:
            return False
    for taker, rate, rent in zip(takers, rates, rents):
        if rent < rate * floor or (taker == "" and rent != rate * floor):
            return False
    return True


def rents_by_hand(bidders, rates, floor):
    strengths = sorted([weight * bid for _, weight, bid in bidders], reverse=True)
    rents = {}
    for hour in range(len(rates) - 1, -1, -1):
        behind = floor
        if hour + 1 < len(strengths) and strengths[hour + 1] >= floor:
            behind = strengths[hour + 1]
        if hour == len(rates) - 1:
            rents[hour] = rates[hour] * behind
        else:
            rents[hour] = rents[hour + 1] + behind * (rates[hour] - rates[hour + 1])
    return tuple(rents[hour] for hour in range(len(rates)))


def some_case(chance, most, bids, rates):
    names = ["f", "b", "d", "a", "c", "e"][: chance.randint(0, most)]
    bidders = [(name, chance.randint(1, 2), chance.randint(0, bids)) for name in names]
    fallen = sorted([chance.randint(1, rates) for _ in range(chance.randint(1, 3))], reverse=True)
    return bidders, fallen, chance.randint(0, bids)


class DearestTest(Case):
    def test_kinds(self):
        self.has_parameters(dearest, "bidders", "rates", "*", "floor=0")
        given = dearest(bidders=tuple(BIDDERS), rates=(3, 1))
        self.assertIs(type(given), Allotment)
        self.assertEqual((given.takers, given.total, given.rents), (("ann", "ben"), 19, (12, 4)))

    def test_guests(self):
        given = dearest(BIDDERS, [3, 2, 1], floor=5)
        self.assertEqual((given.takers, given.total, given.rents), (("ann", "", ""), 30, (15, 10, 5)))
        given = dearest(BIDDERS, [3, 2, 1], floor=6)
        self.assertEqual((given.takers, given.total, given.rents), (("", "", ""), 36, (18, 12, 6)))
        given = dearest([], [7])
        self.assertEqual((given.takers, given.total, given.rents), (("",), 0, (0,)))
        given = dearest(BIDDERS[:1], [2, 1])
        self.assertEqual((given.takers, given.total, given.rents), (("ann", ""), 10, (0, 0)))

    def test_equal_rates(self):
        given = dearest(BIDDERS, [2, 2])
        self.assertEqual((given.takers, given.total, given.rents), (("ann", "ben"), 18, (8, 8)))

    def test_great_numbers(self):
        bidders = [("ann", 1000, 10 ** 9), ("ben", 1000, 10 ** 9)]
        given = dearest(bidders, [1000, 1000, 1], floor=10 ** 12)
        self.assertEqual(given.takers, ("ann", "ben", ""))
        self.assertEqual(given.rents, (10 ** 15, 10 ** 15, 10 ** 12))

    def test_at_random(self):
        chance = random.Random(26)
        for _ in range(300):
            bidders, rates, floor = some_case(chance, 6, 6, 5)
            kept = (list(bidders), list(rates))
            given = dearest(bidders, rates, floor=floor)
            names = ladder(bidders, hours=len(rates), floor=floor)
            self.assertEqual(given.takers, names + ("",) * (len(rates) - len(names)))
            self.assertEqual(given.total, greatest_total(bidders, rates, floor))
            self.assertEqual(given.rents, rents_by_hand(bidders, rates, floor))
            self.assertTrue(are_rents(bidders, rates, floor, given.takers, given.rents))
            self.assertEqual((bidders, rates), kept)

    def test_no_lesser_rents(self):
        chance = random.Random(27)
        for _ in range(60):
            bidders, rates, floor = some_case(chance, 4, 3, 2)
            given = dearest(bidders, rates, floor=floor)
            for rents in itertools.product(range(13), repeat=len(rates)):
                if are_rents(bidders, rates, floor, given.takers, rents):
                    self.assertTrue(all(rent >= least for rent, least in zip(rents, given.rents)))

    def test_checks_in_order(self):
        self.fails(BadCount, {"size": 7}, dearest, [("", 0, -1)] * 7, [], floor=-1)
        self.fails(BadName, {"name": ""}, dearest, [("", 0, -1)], [], floor=-1)
        self.fails(BadNumber, {"number": 0}, dearest, [("ann", 0, -1)], [], floor=-1)
        self.fails(BadNumber, {"number": -1}, dearest, [("ann", 1, -1)], [], floor=-1)
        self.fails(BadCount, {"size": 0}, dearest, BIDDERS, [], floor=-1)
        self.fails(BadCount, {"size": 4}, dearest, BIDDERS, [0, 0, 0, 0], floor=-1)
        for rates, number in (([0], 0), ([1001], 1001), ([-1], -1), ([5, 6], 6), ([5, 0, 9], 0), ([5, 5, 6], 6), ([3, 10 ** 59], 10 ** 59)):
            self.fails(BadNumber, {"number": number}, dearest, BIDDERS, rates, floor=-1)
        for floor in (-1, 10 ** 12 + 1):
            self.fails(BadNumber, {"number": floor}, dearest, BIDDERS, [1000, 1000, 1], floor=floor)


if __name__ == "__main__":
    unittest.main()
