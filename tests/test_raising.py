"""Raising tolls [9]."""

import random
import unittest

from helpers import Case
from turnsandkeys.errors import BadNumber, UnknownName
from turnsandkeys.links import Links
from turnsandkeys.raising import Raising, keeps_apart, least_raising
from turnsandkeys.ways import is_way, least_toll, way_toll


def cheap_trails(links, givers, takers, price):
    """The greatest gain of each set of links that is a way below the price, without a link twice."""
    gains = {}

    def go(holder, way, toll):
        if way and holder in takers:
            links_of = frozenset(way)
            gains[links_of] = max(gains.get(links_of, 0), price - toll)
        for number, (start, end, more) in enumerate(links):
            if start == holder and number not in way and toll + more < price:
                go(end, [*way, number], toll + more)

    for giver in givers:
        go(giver, [], 0)
    return sorted(gains.items(), key=lambda row: -row[1])


def greatest_gain(trails):
    """The greatest sum of gains of trails that share no link."""
    best = 0

    def go(at, used, gain):
        nonlocal best
        best = max(best, gain)
        for further in range(at, len(trails)):
            if not trails[further][0] & used:
                go(further + 1, used | trails[further][0], gain + trails[further][1])

    go(0, frozenset(), 0)
    return best


def some_case(chance):
    names = ["a", "b", "c", "d", "e", "f"][: chance.randint(2, 6)]
    many = chance.randint(0, 8)
    rows = [(*chance.sample(names, 2), chance.choice([0, 0, 1, 2, 3, 5])) for _ in range(many)]
    givers = [name for name in names if chance.random() < 0.4]
    takers = [name for name in names if name not in givers and chance.random() < 0.5]
    return Links(names, rows), givers, takers, chance.randint(0, 7)


class RaisingTest(Case):
    def looked_at(self, links, givers, takers, price):
        """The raising, after a look at all properties that the point lists."""
        raising = least_raising(links, givers, takers, price)
        self.assertIs(type(raising), Raising)
        self.assertIs(type(raising.raises), tuple)
        self.assertIs(type(raising.ways), tuple)
        self.assertEqual(len(raising.raises), len(links))
        self.assertGreaterEqual(min(raising.raises, default=0), 0)
        self.assertEqual(sum(raising.raises), raising.total)
        raised = links.raised(raising.raises)
        for giver in givers:
            for taker in takers:
                toll = least_toll(raised, giver, taker)
                self.assertTrue(toll is None or toll >= price)
        numbers = [number for way in raising.ways for number in way]
        self.assertEqual(len(numbers), len(set(numbers)))
        for way in raising.ways:
            self.assertIs(type(way), tuple)
            self.assertTrue(any(is_way(links, giver, taker, way) for giver in givers for taker in takers))
            self.assertLess(way_toll(links, way), price)
        self.assertEqual(sum(price - way_toll(links, way) for way in raising.ways), raising.total)
        return raising

    def test_parameters(self):
        self.has_parameters(least_raising, "links", "givers", "takers", "price")
        self.has_parameters(keeps_apart, "links", "givers", "takers", "price")

    def test_at_random_total_is_the_least(self):
        chance = random.Random(8)
        for _ in range(400):
            links, givers, takers, price = some_case(chance)
            kept = (list(givers), list(takers), Links(links.names, links.links))
            raising = self.looked_at(links, givers, takers, price)
            self.assertEqual(raising.total, greatest_gain(cheap_trails(links, givers, takers, price)))
            self.assertIs(keeps_apart(links, givers, takers, price), raising.total == 0)
            self.assertEqual((givers, takers, links), kept)

    def test_twelve_links_and_great_numbers(self):
        chance = random.Random(9)
        names = ["a", "b", "c", "d", "e", "f"]
        for _ in range(100):
            rows = [(*chance.sample(names, 2), chance.randint(0, 10 ** 9)) for _ in range(12)]
            self.looked_at(Links(names, rows), ["a", "b"], ["e", "f"], 10 ** 9)

    def test_unit_is_turned_back(self):
        rows = [("a", "b", 0), ("b", "c", 0), ("c", "d", 0), ("a", "c", 2), ("b", "d", 2)]
        raising = self.looked_at(Links(["a", "b", "c", "d"], rows), ["a"], ["d"], 10)
        self.assertEqual(raising.total, 16)

    def test_ways_through_givers_and_takers(self):
        rows = [("a", "b", 1), ("b", "c", 1), ("c", "d", 0), ("b", "d", 0)]
        raising = self.looked_at(Links(["a", "b", "c", "d"], rows), ["a", "b"], ["c", "d"], 3)
        self.assertEqual(raising.total, 5)

    def test_links_side_by_side(self):
        links = Links(["a", "b"], [("a", "b", 1), ("a", "b", 4), ("b", "a", 0)])
        raising = self.looked_at(links, ("a", "a"), ("b", "b"), 4)
        self.assertEqual((raising.raises, raising.ways, raising.total), ((3, 0, 0), ((0,),), 3))

    def test_giver_who_is_a_taker(self):
        links = Links(["a", "b"], [("a", "b", 1)])
        self.assertIsNone(least_raising(links, ["a", "b"], ["b"], 1))
        self.assertIsNone(least_raising(links, givers=["b"], takers=["a", "b"], price=10 ** 9))
        self.assertIs(keeps_apart(links, ["a", "b"], ["b"], 1), False)
        self.assertIs(keeps_apart(links, givers=["b"], takers=["b"], price=0), True)
        raising = self.looked_at(links, ["a", "b"], ["b", "a"], 0)
        self.assertEqual((raising.raises, raising.ways, raising.total), ((0,), (), 0))

    def test_nobody_and_nothing(self):
        links = Links(["a", "b"], [("a", "b", 1)])
        for givers, takers, price in (([], ["b"], 9), (["a"], [], 9), ([], [], 9), (["a"], ["b"], 0), (["b"], ["a"], 9)):
            raising = self.looked_at(links, givers, takers, price)
            self.assertEqual((raising.raises, raising.ways, raising.total), ((0,), (), 0))
            self.assertIs(keeps_apart(links, givers, takers, price), True)
        self.assertEqual(self.looked_at(Links(["a"]), ["a"], [], 5).raises, ())

    def test_keeps_apart(self):
        links = Links(["a", "b", "c"], [("a", "b", 2), ("b", "c", 3), ("a", "c", 9)])
        self.assertIs(keeps_apart(links, ["a"], ["c"], 5), True)
        self.assertIs(keeps_apart(links, ["a"], ["c"], 6), False)
        self.assertIs(keeps_apart(links, ("a", "b"), ("c",), 4), False)
        self.assertIs(keeps_apart(links, ["c"], ["a"], 10 ** 9), True)

    def test_checks_in_order(self):
        links = Links(["a", "b"], [("a", "b", 1)])
        for call in (least_raising, keeps_apart):
            self.fails(UnknownName, {"name": "x"}, call, links, ["a", "x"], ["y"], -1)
            self.fails(UnknownName, {"name": "y"}, call, links, ["a"], ["b", "y", "z"], -1)
            self.fails(BadNumber, {"number": -1}, call, links, ["a"], ["a"], -1)
            self.fails(BadNumber, {"number": 10 ** 9 + 1}, call, links, ["a"], ["b"], 10 ** 9 + 1)
            self.fails(BadNumber, {"number": 10 ** 59}, call, links, [], [], 10 ** 59)


if __name__ == "__main__":
    unittest.main()
