"""Passes [26, 27]."""

import random
import unittest

from helpers import Case
from turnsandkeys.passes import first_over, longest, next_passes, passed_over

MEMBERS = ("ann", "ben", "cid", "dan")


class PassesTest(Case):
    def test_parameters(self):
        self.has_parameters(passed_over, "candidates", "takers", "keeper")
        self.has_parameters(next_passes, "members", "passes", "candidates", "takers", "keeper", "most")
        self.has_parameters(first_over, "members", "passes", "passed", "limit")
        self.has_parameters(longest, "members", "passes", "candidates")

    def test_passed_over(self):
        self.assertEqual(passed_over(MEMBERS, (), ""), MEMBERS)
        self.assertEqual(passed_over(("ann", "cid", "dan"), ("cid",), ""), ("ann", "dan"))
        self.assertEqual(passed_over(("ann", "cid", "dan"), ("dan", "ann"), ""), ("cid",))
        self.assertEqual(passed_over(("ann", "cid"), (), "ann"), ("cid",))
        self.assertEqual(passed_over(("ann", "cid"), (), "ben"), ("ann", "cid"))
        self.assertEqual(passed_over(("ann", "cid"), ("cid",), "ann"), ())
        self.assertEqual(passed_over((), ("ben",), "ann"), ())
        self.assertEqual(passed_over(candidates=(), takers=(), keeper=""), ())

    def test_next_passes(self):
        passes = (1, 2, 0, 3)
        self.assertEqual(next_passes(MEMBERS, passes, MEMBERS, ("ben",), "", 9), (2, 0, 1, 4))
        self.assertEqual(next_passes(MEMBERS, passes, MEMBERS, ("ben",), "", 3), (2, 0, 1, 3))
        self.assertEqual(next_passes(MEMBERS, passes, ("ann", "cid"), ("cid", "ann"), "", 3), (0, 2, 0, 3))
        self.assertEqual(next_passes(MEMBERS, passes, ("ann", "cid"), (), "dan", 3), (2, 2, 1, 0))
        self.assertEqual(next_passes(MEMBERS, passes, ("ann", "dan"), (), "dan", 3), (2, 2, 0, 0))
        self.assertEqual(next_passes(MEMBERS, passes, (), (), "", 3), passes)
        # A taker or a keeper who is no candidate has had the key all the same.
        self.assertEqual(next_passes(MEMBERS, passes, (), ("ann",), "ben", 3), (0, 0, 0, 3))
        self.assertEqual(next_passes(MEMBERS, (0, 0, 0, 0), MEMBERS, (), "", 0), (0, 0, 0, 0))
        found = next_passes(members=("ann",), passes=(4,), candidates=("ann",), takers=(), keeper="", most=5)
        self.assertEqual(found, (5,))
        self.assertIs(type(found), tuple)

    def test_first_over(self):
        passes = (1, 2, 0, 2)
        self.assertEqual(first_over(MEMBERS, passes, MEMBERS, 2), "ben")
        self.assertEqual(first_over(MEMBERS, passes, ("dan", "ben"), 2), "dan")
        self.assertEqual(first_over(MEMBERS, passes, ("cid", "ann", "dan"), 1), "ann")
        self.assertEqual(first_over(MEMBERS, passes, ("cid",), 0), "cid")
        self.assertIsNone(first_over(MEMBERS, passes, MEMBERS, 3))
        self.assertIsNone(first_over(MEMBERS, passes, MEMBERS, None))
        self.assertIsNone(first_over(MEMBERS, passes, (), 0))
        self.assertIsNone(first_over(members=MEMBERS, passes=passes, passed=("cid",), limit=1))

    def test_longest(self):
        passes = (1, 2, 0, 2)
        self.assertEqual(longest(MEMBERS, passes, MEMBERS), "ben")
        self.assertEqual(longest(MEMBERS, passes, ("dan", "ben")), "dan")
        self.assertEqual(longest(MEMBERS, passes, ("cid", "ann")), "ann")
        self.assertEqual(longest(MEMBERS, passes, ("cid",)), "cid")
        self.assertEqual(longest(MEMBERS, passes, ()), "")
        self.assertEqual(longest(members=MEMBERS, passes=(0, 0, 0, 0), candidates=("cid", "ann")), "cid")


class BoundTest(Case):
    """What [27] says about passes over many rounds."""

    def some_round(self, chance, members, passes):
        candidates = tuple(member for member in members if chance.random() < 0.7)
        if chance.random() < 0.15:
            return candidates, (), chance.choice(members)
        taker = longest(members, passes, candidates)
        if taker == "":
            return (), (), ""
        numbers = [passes[members.index(member)] for member in candidates]
        equals = [member for member, number in zip(candidates, numbers) if number == max(numbers)]
        self.assertEqual(taker, equals[0])
        return candidates, (chance.choice(equals),), ""

    def test_many_rounds(self):
        chance = random.Random(270)
        reached = 0
        for _ in range(60):
            members = MEMBERS[: chance.randint(1, 4)]
            passes = (0,) * len(members)
            late = 0
            for _ in range(40):
                candidates, takers, keeper = self.some_round(chance, members, passes)
                passes = next_passes(members, passes, candidates, takers, keeper, 10 ** 9)
                late += 1 if keeper else 0
                self.assertLessEqual(max(passes), len(members) - 1 + late)
                for j in range(late + 1, late + len(members) + 1):
                    self.assertLessEqual(sum(number >= j for number in passes), len(members) - j + late)
                reached += max(passes) == len(members) - 1 + late
        self.assertGreater(reached, 100)


if __name__ == "__main__":
    unittest.main()
