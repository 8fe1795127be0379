"""Ways [8]."""

import itertools
import random
import unittest

from helpers import Case
from turnsandkeys.errors import NoLink, UnknownName
from turnsandkeys.links import Links
from turnsandkeys.ways import first_way, is_way, least_toll, potentials, way_toll

NAMES = ["ann", "ben", "cid", "dot"]
ROWS = [("ann", "ben", 2), ("ben", "cid", 3), ("cid", "ann", 0), ("ben", "cid", 1), ("ann", "cid", 9)]


def some_links(chance, most=8):
    names = ["a", "b", "c", "d", "e", "f"][: chance.randint(1, 6)]
    if len(names) == 1:
        return Links(names)
    return Links(names, [(*chance.sample(names, 2), chance.choice([0, 0, 1, 2, 3])) for _ in range(chance.randint(0, most))])


def plain_ways(links, giver, taker):
    """All ways that pass no name twice."""
    found = []

    def go(way, passed):
        if passed[-1] == taker:
            found.append(way)
        for number, (start, end, _) in enumerate(links):
            if start == passed[-1] and end not in passed:
                go([*way, number], [*passed, end])

    go([], [giver])
    return found


class WaysTest(Case):
    def setUp(self):
        self.links = Links(NAMES, ROWS)

    def test_parameters(self):
        self.has_parameters(is_way, "links", "giver", "taker", "numbers")
        self.has_parameters(way_toll, "links", "numbers")
        self.has_parameters(least_toll, "links", "giver", "taker")
        self.has_parameters(first_way, "links", "giver", "taker")
        self.has_parameters(potentials, "links", "givers")

    def test_is_way(self):
        links = self.links
        self.assertIs(is_way(links, "ann", "ann", []), True)
        self.assertIs(is_way(links, "dot", "dot", ()), True)
        self.assertIs(is_way(links, "ann", "ben", []), False)
        self.assertIs(is_way(links, "ann", "cid", [0, 1]), True)
        self.assertIs(is_way(links, "ann", "cid", (0, 3)), True)
        self.assertIs(is_way(links, "ann", "ben", [0, 1, 2, 0, 1, 2, 0]), True)
        self.assertIs(is_way(links, "ann", "cid", [1, 0]), False)
        self.assertIs(is_way(links, "ann", "ben", [0, 1]), False)
        self.assertIs(is_way(links, "ben", "cid", [0, 1]), False)
        self.assertIs(is_way(links, "ann", "cid", [0, 0, 1]), False)
        self.assertIs(is_way(links=links, giver="ann", taker="cid", numbers=[4]), True)

    def test_is_way_with_unknown_numbers(self):
        for number in (5, -1, -5, 10 ** 59, -(10 ** 59), 10 ** 999):
            self.assertIs(is_way(self.links, "ann", "cid", [number]), False)
            self.assertIs(is_way(self.links, "ann", "cid", [0, 1, number]), False)
        # Counted from the end, -1 would be the link from ann to cid.
        self.assertIs(is_way(self.links, "ann", "cid", [-1]), False)

    def test_way_toll(self):
        self.assertEqual(way_toll(self.links, []), 0)
        self.assertEqual(way_toll(self.links, [0, 1, 2, 0]), 7)
        self.assertEqual(way_toll(self.links, (4, 4, 1)), 21)
        for number in (5, -1, 10 ** 59, -(10 ** 59), 10 ** 999):
            self.fails(NoLink, {"number": number}, way_toll, self.links, [0, number, 77])
        self.fails(NoLink, {"number": 0}, way_toll, Links(NAMES), numbers=[0])

    def test_least_toll(self):
        self.assertEqual(least_toll(self.links, "ann", "cid"), 3)
        self.assertEqual(least_toll(self.links, "cid", "ben"), 2)
        self.assertEqual(least_toll(self.links, "ann", "ann"), 0)
        self.assertIsNone(least_toll(self.links, "ann", "dot"))
        self.assertEqual(least_toll(links=self.links, giver="dot", taker="dot"), 0)

    def test_first_way(self):
        self.assertEqual(first_way(self.links, "ann", "cid"), [0, 3])
        self.assertEqual(first_way(self.links, "dot", "dot"), [])
        self.assertIsNone(first_way(self.links, "dot", "ann"))
        self.is_new_list(lambda: first_way(self.links, giver="ann", taker="cid"))

    def test_first_way_has_the_fewest_links(self):
        links = Links(["a", "b", "c"], [("a", "b", 0), ("b", "a", 0), ("b", "c", 0), ("a", "c", 0)])
        self.assertEqual(first_way(links, "a", "c"), [3])
        self.assertEqual(first_way(links, "a", "a"), [])
        links = Links(["a", "b", "c"], [("a", "c", 3), ("a", "b", 1), ("b", "c", 2)])
        self.assertEqual(first_way(links, "a", "c"), [0])
        self.assertEqual(first_way(links.raised([1, 0, 0]), "a", "c"), [1, 2])

    def test_first_way_is_the_first_list(self):
        links = Links(["a", "b", "c", "d"], [("b", "d", 1), ("c", "d", 1), ("a", "c", 1), ("a", "b", 1), ("a", "b", 1)])
        self.assertEqual(first_way(links, "a", "d"), [2, 1])
        self.assertEqual(first_way(links.without(2), "a", "d"), [2, 0])

    def test_potentials(self):
        self.assertEqual(potentials(self.links, []), [None] * 4)
        self.assertEqual(potentials(self.links, ["ann", "ann"]), [0, 2, 3, None])
        self.assertEqual(potentials(self.links, NAMES), [0] * 4)
        self.assertEqual(potentials(links=self.links, givers=("dot", "ben")), [1, 0, 1, 0])
        self.is_new_list(lambda: potentials(self.links, ["ann"]))

    def test_at_random_against_all_plain_ways(self):
        chance = random.Random(6)
        for _ in range(150):
            links = some_links(chance)
            for giver, taker in itertools.product(links.names, links.names):
                ways = plain_ways(links, giver, taker)
                best = min(ways, key=lambda way: (way_toll(links, way), len(way), way), default=None)
                self.assertEqual(first_way(links, giver, taker), best)
                toll = None if best is None else way_toll(links, best)
                self.assertEqual(least_toll(links, giver, taker), toll)
                self.assertEqual(links.tolls().closed()[giver, taker], toll)

    def test_potentials_at_random(self):
        chance = random.Random(7)
        for _ in range(150):
            links = some_links(chance, 12)
            givers = [name for name in links.names if chance.random() < 0.4]
            kept = list(givers)
            found = dict(zip(links.names, potentials(links, givers)))
            self.assertEqual(givers, kept)
            for name in links.names:
                tolls = [least_toll(links, giver, name) for giver in givers]
                self.assertEqual(found[name], min([toll for toll in tolls if toll is not None], default=None))
            for giver, taker, toll in links:
                if found[giver] is not None:
                    self.assertLessEqual(found[taker], found[giver] + toll)

    def test_unknown_names(self):
        links = self.links
        for call in (least_toll, first_way, lambda *rest: is_way(*rest, [99])):
            self.fails(UnknownName, {"name": "x"}, call, links, "x", "y")
            self.fails(UnknownName, {"name": "y"}, call, links, "ann", "y")
            self.fails(UnknownName, {"name": ""}, call, links, "", "ann")
        self.fails(UnknownName, {"name": "x"}, potentials, links, ["ann", "x", "y"])

    def test_arguments_stay_as_they_were(self):
        numbers, givers = [0, 1], ["ann", "ben"]
        is_way(self.links, "ann", "cid", numbers)
        way_toll(self.links, numbers)
        potentials(self.links, givers)
        first_way(self.links, "ann", "cid")
        self.assertEqual((numbers, givers), ([0, 1], ["ann", "ben"]))
        self.assertEqual(self.links, Links(NAMES, ROWS))


if __name__ == "__main__":
    unittest.main()
