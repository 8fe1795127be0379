"""Ladders [18] and their prices [19]."""

import itertools
import random
import unittest

from helpers import Case
from turnsandkeys.errors import BadCount, BadName, BadNumber, DoubledName, UnknownName
from turnsandkeys.ladders import ladder, ladder_prices, raises_for

BIDDERS = [("ann", 1, 5), ("ben", 2, 2), ("cid", 1, 4)]
MANY = [(name, 1, 1) for name in ("a", "b", "c", "d", "e", "f", "g")]


def some_bidders(chance, most, bids):
    names = ["f", "b", "d", "a", "c", "e"][: chance.randint(0, most)]
    return [(name, chance.randint(1, 3), chance.randint(0, bids)) for name in names]


def ladder_by_hand(bidders, hours, floor):
    places = [at for at, (_, weight, bid) in enumerate(bidders) if weight * bid >= floor]
    places.sort(key=lambda at: (-bidders[at][1] * bidders[at][2], at))
    return tuple(bidders[at][0] for at in places[:hours])


def raised(bidders, raises):
    return [(name, weight, bid + more) for (name, weight, bid), more in zip(bidders, raises)]


def tuples_of(bidders):
    """All tuples of at most 3 bidders, ordered as the tuples of their places."""
    places = [at for size in range(4) for at in itertools.permutations(range(len(bidders)), size)]
    return [tuple(bidders[at][0] for at in row) for row in sorted(places)]


class LadderTest(Case):
    def test_parameters(self):
        self.has_parameters(ladder, "bidders", "*", "hours=1", "floor=0")
        self.has_parameters(raises_for, "bidders", "names", "*", "hours=1", "floor=0")
        self.has_parameters(ladder_prices, "bidders", "*", "hours=1", "floor=0")

    def test_ranking(self):
        self.assertEqual(ladder(BIDDERS), ("ann",))
        self.assertEqual(ladder(BIDDERS, hours=2), ("ann", "ben"))
        self.assertEqual(ladder(tuple(BIDDERS), hours=3), ("ann", "ben", "cid"))
        self.assertEqual(ladder(bidders=BIDDERS[::-1], hours=3), ("ann", "cid", "ben"))

    def test_floor(self):
        self.assertEqual(ladder(BIDDERS, hours=3, floor=4), ("ann", "ben", "cid"))
        self.assertEqual(ladder(BIDDERS, hours=3, floor=5), ("ann",))
        self.assertEqual(ladder(BIDDERS, hours=3, floor=6), ())
        self.assertEqual(ladder(BIDDERS, hours=3, floor=3), ("ann", "ben", "cid"))
        self.assertEqual(ladder([("ann", 1000, 10 ** 9)], floor=10 ** 12), ("ann",))
        self.assertEqual(ladder([("ann", 1, 0)]), ("ann",))
        self.assertEqual(ladder([("ann", 1, 0)], floor=1), ())

    def test_nobody(self):
        self.assertEqual(ladder([]), ())
        self.assertEqual(ladder((), hours=3, floor=9), ())
        self.assertEqual(raises_for([], []), ())
        self.assertEqual(ladder_prices([]), [((), 0)])

    def test_at_random(self):
        chance = random.Random(23)
        for _ in range(300):
            bidders = some_bidders(chance, 6, 4)
            kept = list(bidders)
            hours, floor = chance.randint(1, 3), chance.randint(0, 8)
            found = ladder(bidders, hours=hours, floor=floor)
            self.assertEqual(found, ladder_by_hand(bidders, hours, floor))
            self.assertIs(type(found), tuple)
            self.assertEqual(bidders, kept)


class ChecksTest(Case):
    def everywhere(self, error, told, bidders, **named):
        """The error comes from all three functions; wrong names come last."""
        self.fails(error, told, ladder, bidders, **named)
        self.fails(error, told, ladder_prices, bidders, **named)
        self.fails(error, told, raises_for, bidders, ["nobody", "nobody"], **named)

    def test_bidders(self):
        self.assertEqual(ladder(MANY[:6], hours=3), ("a", "b", "c"))
        self.everywhere(BadCount, {"size": 7}, [("", 0, -1)] * 7, hours=0, floor=-1)
        self.everywhere(BadName, {"name": ""}, [("", 0, -1)], hours=0, floor=-1)
        self.everywhere(BadName, {"name": "Ann"}, [("ann", 1, 1), ("Ann", 0, -1)])
        self.everywhere(DoubledName, {"name": "ann"}, [("ann", 1, 1), ("ann", 0, -1), ("", 0, 0)])
        for weight in (0, -1, 1001, 10 ** 59):
            self.everywhere(BadNumber, {"number": weight}, [("ann", weight, -1), ("", 1, 1)], hours=0)
        for bid in (-1, 10 ** 9 + 1, 10 ** 59):
            self.everywhere(BadNumber, {"number": bid}, [("ann", 1000, bid), ("", 1, 1)], hours=0)
        self.assertEqual(ladder([("ann", 1000, 10 ** 9), ("ben", 1, 0)], hours=2), ("ann", "ben"))

    def test_hours_then_floor(self):
        for hours in (0, 4, -1, 10 ** 59):
            self.everywhere(BadNumber, {"number": hours}, BIDDERS, hours=hours, floor=-5)
        for floor in (-1, 10 ** 12 + 1, 10 ** 59):
            self.everywhere(BadNumber, {"number": floor}, BIDDERS, hours=3, floor=floor)

    def test_names(self):
        self.fails(UnknownName, {"name": "x"}, raises_for, BIDDERS, ["ann", "x", "ann", "ann"])
        self.fails(DoubledName, {"name": "ann"}, raises_for, BIDDERS, ("ann", "ann", "x"))
        self.fails(UnknownName, {"name": ""}, raises_for, BIDDERS, [""])


class RaisesTest(Case):
    def test_small_ones(self):
        self.assertEqual(raises_for(BIDDERS, ["ann"]), (0, 0, 0))
        self.assertEqual(raises_for(BIDDERS, ("ben",)), (0, 1, 0))
        self.assertEqual(raises_for(bidders=BIDDERS, names=["cid"]), (0, 0, 2))
        self.assertEqual(raises_for(BIDDERS, ["cid", "ann"], hours=2), (0, 0, 2))
        self.assertEqual(raises_for(BIDDERS, ["cid", "ben"], hours=2), (0, 1, 3))
        self.assertEqual(raises_for(BIDDERS, ["ben", "cid"], hours=2), (0, 1, 2))
        self.assertEqual(raises_for(BIDDERS, ["cid"], floor=10 ** 12), (0, 0, 10 ** 12 - 4))
        self.assertEqual(raises_for(BIDDERS, ["ben"], floor=7), (0, 2, 0))

    def test_none(self):
        self.assertIsNone(raises_for(BIDDERS, ["ann", "ben"]))
        self.assertIsNone(raises_for(BIDDERS, []))
        self.assertIsNone(raises_for(BIDDERS, ["ann"], hours=2, floor=4))
        self.assertIsNone(raises_for(BIDDERS, ["ann"], hours=2, floor=0))
        self.assertEqual(raises_for(BIDDERS, ["ann"], hours=2, floor=5), (0, 0, 0))
        self.assertEqual(raises_for(BIDDERS, ["ben", "ann"], hours=3, floor=5), (0, 1, 0))
        self.assertEqual(raises_for(BIDDERS, [], hours=3, floor=6), (0, 0, 0))

    def test_against_all_small_raises(self):
        chance = random.Random(24)
        for _ in range(60):
            bidders = some_bidders(chance, 3, 2)
            hours, floor = chance.randint(1, 3), chance.randint(0, 5)
            reached = {}
            for raises in itertools.product(range(9), repeat=len(bidders)):
                reached.setdefault(ladder_by_hand(raised(bidders, raises), hours, floor), []).append(raises)
            for names in tuples_of(bidders):
                found = raises_for(bidders, list(names), hours=hours, floor=floor)
                self.assertEqual(found is None, names not in reached)
                if found is not None:
                    self.assertIs(type(found), tuple)
                    self.assertIn(found, reached[names])
                    # At each place no raises that bring the names about have less.
                    self.assertEqual(found, tuple(map(min, zip(*reached[names]))))

    def test_prices_at_random(self):
        chance = random.Random(25)
        for _ in range(60):
            bidders = some_bidders(chance, 6, 6)
            kept = list(bidders)
            hours, floor = chance.randint(1, 3), chance.randint(0, 12)
            expected = []
            for names in tuples_of(bidders):
                raises = raises_for(bidders, names, hours=hours, floor=floor)
                if raises is not None:
                    self.assertEqual(ladder_by_hand(raised(bidders, raises), hours, floor), names)
                    expected.append((names, sum(raises)))
            found = ladder_prices(bidders, hours=hours, floor=floor)
            self.assertEqual(found, expected)
            free = [names for names, price in found if price == 0]
            self.assertEqual(free, [ladder(bidders, hours=hours, floor=floor)])
            self.assertEqual(bidders, kept)

    def test_prices(self):
        self.assertEqual(ladder_prices(bidders=BIDDERS), [(("ann",), 0), (("ben",), 1), (("cid",), 2)])
        self.assertEqual(ladder_prices(BIDDERS, floor=6), [((), 0), (("ann",), 1), (("ben",), 1), (("cid",), 2)])
        self.assertEqual(len(ladder_prices(tuple(MANY[:6]), hours=3)), 120)
        self.assertEqual(len(ladder_prices(MANY[:6], hours=3, floor=2)), 157)
        self.is_new_list(lambda: ladder_prices(BIDDERS))

    def test_more_hours_than_bidders(self):
        self.assertEqual(ladder_prices(BIDDERS[:1], hours=3), [(("ann",), 0)])
        self.assertEqual(ladder_prices(BIDDERS[:1], hours=3, floor=6), [((), 0), (("ann",), 1)])


if __name__ == "__main__":
    unittest.main()
