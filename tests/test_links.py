"""Links [7]."""

import unittest

from helpers import Case
from turnsandkeys.errors import BadCount, BadName, BadNumber, DoubledName, NoLink, UnknownName
from turnsandkeys.links import Links
from turnsandkeys.tolls import Tolls

NAMES = ["ann", "ben", "cid"]
ROWS = [("ann", "ben", 2), ("ann", "ben", 7), ("ben", "cid", 0), ("cid", "ann", 10 ** 9)]


class MakingTest(Case):
    def test_attributes(self):
        links = Links(NAMES, ROWS)
        self.assertEqual(links.names, ("ann", "ben", "cid"))
        self.assertEqual(links.links, tuple(ROWS))
        self.assertEqual(len(links), 4)
        self.assertEqual(list(links), ROWS)
        self.assertEqual([(a, b) for a in links for b in links], [(a, b) for a in ROWS for b in ROWS])

    def test_no_links(self):
        links = Links(("ann",))
        self.assertEqual((links.names, links.links, len(links), list(links)), (("ann",), (), 0, []))

    def test_parameters(self):
        self.assertEqual(Links(names=tuple(NAMES), links=tuple(ROWS)), Links(NAMES, ROWS))
        links = Links(NAMES, ROWS)
        self.has_parameters(Links, "names", "links=()")
        self.has_parameters(links.tolls)
        self.has_parameters(links.raised, "raises")
        self.has_parameters(links.without, "*numbers")

    def test_copies_and_keeps_lists(self):
        names, rows = list(NAMES), list(ROWS)
        links = Links(names, rows)
        self.assertEqual((names, rows), (NAMES, ROWS))
        names.pop()
        rows.pop()
        self.assertEqual(links, Links(NAMES, ROWS))

    def test_twelve_links(self):
        self.assertEqual(len(Links(NAMES, [("ann", "ben", 1)] * 12)), 12)
        self.fails(BadCount, {"size": 13}, Links, NAMES, [("x", "x", -1)] * 13)

    def test_wrong_names(self):
        six = ["a", "b", "c", "d", "e", "f"]
        self.assertEqual(len(Links(six).names), 6)
        self.fails(BadCount, {"size": 7}, Links, [*six, "g"])
        self.fails(BadCount, {"size": 0}, Links, [], [("x", "x", -1)] * 13)
        self.fails(BadName, {"name": ""}, Links, ["ann", ""])
        self.fails(DoubledName, {"name": "ann"}, Links, ["ann", "ann"], [("x", "x", -1)] * 13)

    def test_wrong_links(self):
        self.fails(UnknownName, {"name": "x"}, Links, NAMES, [("x", "y", -1)])
        self.fails(UnknownName, {"name": "y"}, Links, NAMES, [("ann", "y", -1)])
        self.fails(DoubledName, {"name": "ann"}, Links, NAMES, [("ann", "ann", -1)])
        self.fails(UnknownName, {"name": "x"}, Links, NAMES, [("x", "x", -1)])
        for toll in (-1, 10 ** 9 + 1, 10 ** 59, -(10 ** 59)):
            self.fails(BadNumber, {"number": toll}, Links, NAMES, [("ann", "ben", 1), ("ann", "ben", toll), ("x", "x", 0)])


class UsingTest(Case):
    def test_equality(self):
        links = Links(NAMES, ROWS)
        self.assertTrue(links == Links(NAMES, ROWS))
        self.assertIs(links == Links(NAMES, ROWS[::-1]), False)
        self.assertIs(links == Links(NAMES[::-1], ROWS), False)
        self.assertIs(links == Links(NAMES, ROWS[:3]), False)
        for other in (None, ROWS, tuple(ROWS), 4, "links", links.tolls()):
            self.assertIs(links == other, False)

    def test_tolls(self):
        tolls = Links(NAMES, ROWS).tolls()
        self.assertEqual(tolls, Tolls(NAMES, [("ann", "ben", 2), ("ben", "cid", 0), ("cid", "ann", 10 ** 9)]))
        self.assertEqual(Links(NAMES).tolls(), Tolls(NAMES))

    def test_raised(self):
        links = Links(NAMES, ROWS)
        raises = [1, 0, 10 ** 9, 0]
        raised = links.raised(raises)
        self.assertEqual([toll for _, _, toll in raised], [3, 7, 10 ** 9, 10 ** 9])
        self.assertEqual(raised.names, links.names)
        self.assertEqual(raises, [1, 0, 10 ** 9, 0])
        self.assertEqual(links, Links(NAMES, ROWS))
        self.assertEqual(links.raised(raises=tuple(raises)), raised)
        self.assertEqual(Links(NAMES).raised([]), Links(NAMES))

    def test_wrong_raises(self):
        links = Links(NAMES, ROWS)
        self.fails(BadCount, {"size": 3}, links.raised, [-1, 0, 0])
        self.fails(BadCount, {"size": 5}, links.raised, [-1, 0, 0, 0, 0])
        self.fails(BadNumber, {"number": -2}, links.raised, [10 ** 9, 0, -2, -3])
        self.fails(BadNumber, {"number": -1}, links.raised, [-1, 0, 0, 0])
        self.fails(BadNumber, {"number": 10 ** 9 + 2}, links.raised, [0, 10 ** 9 - 7, 10 ** 9 + 2, 1])
        self.fails(BadNumber, {"number": 10 ** 9 + 1}, links.raised, (0, 10 ** 9 - 7, 10 ** 9, 1))
        self.fails(BadNumber, {"number": 10 ** 59 + 2}, links.raised, [10 ** 59, 0, 0, 0])
        self.assertEqual(links, Links(NAMES, ROWS))

    def test_without(self):
        links = Links(NAMES, ROWS)
        self.assertEqual(links.without(), links)
        self.assertEqual(links.without(1).links, (ROWS[0], ROWS[2], ROWS[3]))
        self.assertEqual(links.without(3, 0, 3).links, (ROWS[1], ROWS[2]))
        self.assertEqual(links.without(0, 1, 2, 3), Links(NAMES))
        self.assertEqual(links, Links(NAMES, ROWS))

    def test_without_unknown_numbers(self):
        links = Links(NAMES, ROWS)
        for number in (4, -1, -4, 10 ** 59, -(10 ** 59)):
            self.fails(NoLink, {"number": number}, links.without, 0, number, 99)
        self.fails(NoLink, {"number": 0}, Links(NAMES).without, 0)


if __name__ == "__main__":
    unittest.main()
