"""Orders [13] and lacks [14]."""

import random
import unittest

from ballots import all_orders, order_by_hand, rolls_of_size, some_options, some_roll
from helpers import Case
from turnsandkeys.errors import BadCount, DoubledName, UnknownName
from turnsandkeys.lacks import lack, lack_table, lead
from turnsandkeys.rolls import Roll
from turnsandkeys.weights import chain_weights


def votes_by_hand(roll, order, at):
    """The votes of the options in round `at` of an order."""
    votes = {option: 0 for option in roll.options if option not in order[: at - 1]}
    for ballot, many in roll:
        wanted = [option for option in ballot if option in votes]
        if wanted:
            votes[wanted[0]] += many
    return votes


def lacks_by_hand(roll, order, at):
    """The lacks of round `at`, straight by the words of the point."""
    if at == 0:
        return {option: 0 for option in roll.options}
    before = lacks_by_hand(roll, order, at - 1)
    votes = votes_by_hand(roll, order, at)
    leaver = order[at - 1]
    lacks = {}
    for option in votes:
        ahead = 0 if roll.options.index(leaver) > roll.options.index(option) else 1
        need = votes[leaver] + before[leaver] + ahead - votes[option]
        lacks[option] = before[option] if option == leaver else max(before[option], need)
    return lacks


class LeadTest(Case):
    def test_lead(self):
        self.has_parameters(lead, "options", "leaver", "other")
        for options in (["c", "a", "b"], ("c", "a", "b")):
            self.assertEqual(lead(options, "a", "c"), 0)
            self.assertEqual(lead(options, "b", "c"), 0)
            self.assertEqual(lead(options, "c", "a"), 1)
            self.assertEqual(lead(options=options, leaver="a", other="b"), 1)

    def test_order_of_leaving_begins_as_the_votes_say(self):
        chance = random.Random(12)
        for _ in range(150):
            roll = some_roll(chance, some_options(chance), most=6)
            leaving = order_by_hand(roll)
            for order in all_orders(roll.options):
                said = True
                for at, leaver in enumerate(order, 1):
                    votes = votes_by_hand(roll, order, at)
                    for other in votes:
                        if other != leaver and votes[leaver] + lead(roll.options, leaver, other) > votes[other]:
                            said = False
                self.assertEqual(leaving[: len(order)] == order, said)
                self.assertEqual(lack(roll, order) == 0, said)


class LackTest(Case):
    def test_parameters(self):
        self.has_parameters(lack_table, "roll", "order")
        self.has_parameters(lack, "roll", "order")

    def test_at_random_by_hand(self):
        chance = random.Random(13)
        for _ in range(150):
            roll = some_roll(chance, some_options(chance), most=6)
            kept = list(roll)
            for order in all_orders(roll.options):
                rows = [lacks_by_hand(roll, order, at) for at in range(1, len(order) + 1)]
                expected = tuple(tuple(row[o] for o in roll.options if o in row) for row in rows)
                self.assertEqual(lack_table(roll, order), expected)
                self.assertEqual(lack(roll, order), max([sum(row) for row in expected], default=0))
            self.assertEqual(list(roll), kept)

    def test_empty_order(self):
        roll = Roll(["a", "b"], [(("a",), 3)])
        self.assertEqual(lack_table(roll, ()), ())
        self.assertEqual(lack(roll=roll, order=()), 0)
        self.assertEqual(lack(Roll(["a"]), ()), 0)

    def test_small_table(self):
        roll = Roll(["day", "sale", "rest"], [(("day",), 4), (("sale", "rest"), 3), (("rest", "sale"), 2)])
        # Round 1: 4 + 1 - 3 for sale, 4 + 1 - 2 for rest. Round 2: 3 + 2 + 1 - 2 for rest.
        self.assertEqual(lack_table(roll, ("day", "sale")), ((0, 2, 3), (2, 4)))
        self.assertEqual(lack(roll, ("day", "sale")), 6)
        self.assertEqual(lack(roll, ("day",)), 5)

    def test_lack_is_exact_for_orders_of_every_length(self):
        chance = random.Random(14)
        looked_at = 0
        for _ in range(120):
            roll = some_roll(chance, some_options(chance, 3), most=3, worth=2)
            for order in all_orders(roll.options):
                number = lack(roll, order)
                if number > 2:
                    continue
                looked_at += number > 0
                for size in range(number + 1):
                    reached = any(
                        order_by_hand(roll + more)[: len(order)] == order for more in rolls_of_size(roll.options, size)
                    )
                    self.assertEqual(reached, size == number)
        self.assertGreater(looked_at, 50)

    def test_checks_of_an_order(self):
        roll = Roll(["a", "b", "c"])
        calls = (lack_table, lack, lambda roll, order: chain_weights(roll, order, 99))
        for call in calls:
            self.fails(UnknownName, {"name": "x"}, call, roll, ("a", "x", "a"))
            self.fails(DoubledName, {"name": "a"}, call, roll, ("a", "a", "x"))
            self.fails(DoubledName, {"name": "b"}, call, roll, ("a", "b", "b", "c"))
            self.fails(BadCount, {"size": 3}, call, roll, ("a", "b", "c"))
            self.fails(BadCount, {"size": 1}, call, Roll(["a"]), ("a",))


if __name__ == "__main__":
    unittest.main()
