"""The examples of the document."""

import unittest

from turnsandkeys.links import Links
from turnsandkeys.raising import least_raising
from turnsandkeys.ways import first_way, potentials


class ExamplesTest(unittest.TestCase):
    def test_first(self):
        links = Links(["ann", "ben", "cid"], [("ann", "ben", 2), ("ben", "cid", 3), ("ann", "cid", 9)])
        found = [first_way(links, "ann", "cid"), potentials(links, ["ben"]), least_raising(links, ["ann"], ["cid"], 10).total]
        self.assertEqual(found, [[0, 1], [None, 0, 3], 6])


if __name__ == "__main__":
    unittest.main()
