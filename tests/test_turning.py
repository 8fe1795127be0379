"""Turning a vote [15] and ballot papers [17]."""

import itertools
import random
import time
import unittest

from ballots import all_ballots, order_by_hand, rolls_of_size, some_options, some_roll
from helpers import Case
from turnsandkeys.counts import count
from turnsandkeys.errors import UnknownName
from turnsandkeys.lacks import lack
from turnsandkeys.rolls import Roll
from turnsandkeys.turning import least_ballots, orders_to, shows, turning_order, turning_paper, turning_roll


def winner_by_hand(roll):
    order = order_by_hand(roll)
    return [option for option in roll.options if option not in order][0]


def great_roll(chance):
    options = ["a", "b", "c", "d"]
    rows = [(ballot, chance.choice([0, 1, 10 ** 9 - chance.randint(0, 5), 10 ** 9])) for ballot in all_ballots(options)]
    return Roll(options, rows)


class OrdersTest(Case):
    def test_parameters(self):
        self.has_parameters(orders_to, "options", "option")
        self.has_parameters(least_ballots, "roll", "option")
        self.has_parameters(turning_order, "roll", "option")
        self.has_parameters(turning_roll, "roll", "option")
        self.has_parameters(shows, "roll", "option", "number", "paper")
        self.has_parameters(turning_paper, "roll", "option")

    def test_orders(self):
        self.assertEqual(orders_to(["a"], "a"), [()])
        self.assertEqual(orders_to(("b", "a"), "a"), [("b",)])
        self.assertEqual(orders_to(["c", "a", "b"], "a"), [("c", "b"), ("b", "c")])
        options = ["d", "b", "c", "a"]
        for option in options:
            others = [other for other in options if other != option]
            self.assertEqual(orders_to(options=options, option=option), list(itertools.permutations(others)))
        self.assertEqual(options, ["d", "b", "c", "a"])
        self.is_new_list(lambda: orders_to(options, "a"))

    def test_unknown_option(self):
        roll = Roll(["a", "b"], [(("a",), 1)])
        for call in (least_ballots, turning_order, turning_roll, turning_paper):
            self.fails(UnknownName, {"name": "x"}, call, roll, "x")
            self.fails(UnknownName, {"name": ""}, call, roll, "")
        self.fails(UnknownName, {"name": "x"}, orders_to, ["a", "b"], "x")
        self.fails(UnknownName, {"name": "x"}, shows, roll, "x", 0, [])


class TurningTest(Case):
    def looked_at(self, roll, option):
        """Look at all that can be told for one option without trying ballots."""
        number = least_ballots(roll, option)
        orders = orders_to(roll.options, option)
        lacks = [lack(roll, order) for order in orders]
        self.assertEqual(number, min(lacks))
        self.assertEqual(turning_order(roll, option), orders[lacks.index(number)])
        put_in = turning_roll(roll, option)
        self.assertIs(type(put_in), Roll)
        self.assertEqual(put_in.options, roll.options)
        self.assertEqual(put_in.total, number)
        self.assertEqual(count(roll + put_in).winner, option)
        return number

    def test_at_random(self):
        chance = random.Random(18)
        for _ in range(250):
            roll = some_roll(chance, some_options(chance), most=7, worth=9)
            kept = list(roll)
            for option in roll.options:
                number = self.looked_at(roll, option)
                self.assertEqual(winner_by_hand(roll + turning_roll(roll, option)), option)
                self.assertEqual(number == 0, winner_by_hand(roll) == option)
            self.assertEqual(list(roll), kept)

    def test_fewer_ballots_are_not_enough(self):
        chance = random.Random(19)
        looked_at = 0
        for _ in range(60):
            roll = some_roll(chance, some_options(chance, 3), most=4, worth=2)
            for option in roll.options:
                number = least_ballots(roll, option)
                if 1 <= number <= 4:
                    looked_at += 1
                    for more in rolls_of_size(roll.options, number - 1):
                        self.assertNotEqual(count(roll + more).winner, option)
        self.assertGreater(looked_at, 40)

    def test_fewer_ballots_of_four_options_are_not_enough(self):
        chance = random.Random(20)
        looked_at = 0
        for _ in range(12):
            roll = some_roll(chance, ["a", "b", "c", "d"], most=6, worth=2)
            for option in roll.options:
                if 1 <= least_ballots(roll, option) <= 3:
                    looked_at += 1
                    for more in rolls_of_size(roll.options, least_ballots(roll, option) - 1):
                        self.assertNotEqual(count(roll + more).winner, option)
        self.assertGreater(looked_at, 4)

    def test_a_ballot_serves_one_option_after_the_other(self):
        # The ballots that save b and c from leaving first go on to d when these have left.
        roll = Roll(["a", "b", "c", "d"], [(("a",), 5), (("b", "a"), 3), (("c",), 3), (("d",), 3)])
        for option in roll.options:
            self.looked_at(roll, option)

    def test_one_option(self):
        roll = Roll(["a"], [((), 3)])
        self.assertEqual(self.looked_at(roll, "a"), 0)
        self.assertEqual(turning_order(roll, "a"), ())
        self.assertEqual(turning_roll(roll, "a"), Roll(["a"]))

    def test_great_counts_in_a_short_time(self):
        chance = random.Random(21)
        begun = time.perf_counter()
        for _ in range(10):
            roll = great_roll(chance)
            for option in roll.options:
                self.looked_at(roll, option)
        self.assertLess(time.perf_counter() - begun, 10)

    def test_sums_above_the_bound(self):
        roll = Roll(["a", "b", "c"], [(("a",), 10 ** 9)])
        for _ in range(190):
            roll = roll + roll
        self.assertEqual(self.looked_at(roll, "a"), 0)
        self.assertEqual(self.looked_at(roll, "c"), roll.total + 1)
        paper = turning_paper(roll, "c")
        self.assertIs(shows(roll, "c", roll.total + 1, paper), True)
        self.assertIs(shows(roll, "c", roll.total + 2, paper), False)


class PapersTest(Case):
    def test_paper_shows_the_number_and_not_one_more(self):
        chance = random.Random(22)
        for turn in range(150):
            roll = great_roll(chance) if turn < 5 else some_roll(chance, some_options(chance), most=7, worth=9)
            for option in roll.options:
                paper = turning_paper(roll, option)
                number = least_ballots(roll, option)
                self.assertEqual([order for order, _ in paper], orders_to(roll.options, option))
                for pair in paper:
                    self.assertTrue(type(pair) is type(pair[0]) is type(pair[1]) is tuple)
                    self.assertTrue(all(type(row) is tuple for row in pair[1]))
                kept = list(paper)
                self.assertIs(shows(roll, option, number, paper), True)
                self.assertIs(shows(roll, option, number - 1, paper), True)
                self.assertIs(shows(roll, option, -(10 ** 59), tuple(paper)), True)
                self.assertIs(shows(roll, option, number + 1, paper), False)
                self.assertIs(shows(roll, option, 10 ** 59, paper), False)
                self.assertEqual(paper, kept)
        self.is_new_list(lambda: turning_paper(roll, roll.options[0]))

    def setUp(self):
        self.roll = Roll(["a", "b", "c"], [(("b", "a"), 5), (("c",), 4), (("a",), 1)])
        self.paper = turning_paper(self.roll, "a")
        self.number = least_ballots(self.roll, "a")

    def shown(self, *paper):
        return shows(roll=self.roll, option="a", number=self.number, paper=list(paper))

    def test_right_paper(self):
        # First c leaves (a needs 3 votes for that), then b with 5 votes (a needs 4).
        self.assertEqual(self.number, 4)
        self.assertEqual([order for order, _ in self.paper], [("b", "c"), ("c", "b")])
        self.assertIs(self.shown(*self.paper), True)
        self.assertIs(self.shown(*[(order, list(weights)) for order, weights in self.paper]), True)

    def test_pairs_left_out_doubled_or_turned_about(self):
        first, second = self.paper
        for wrong in ([], [first], [second], [first, first, second], [first, second, second], [second, first], [first, first]):
            self.assertIs(self.shown(*wrong), False)
        other = [(("b", "a"), first[1]), second]
        self.assertIs(self.shown(*other), False)
        self.assertIs(self.shown((("b",), first[1]), second), False)
        self.assertIs(self.shown((("b", "x"), ()), second), False)
        # A paper for another option does not help.
        self.assertIs(self.shown(*turning_paper(self.roll, "b")), False)

    def test_wrong_rows(self):
        first, second = self.paper
        for row in [
            (0, "a", 0), (-1, "a", 0), (3, "a", 0), (10 ** 59, "a", 0), (-2, "a", 0),
            (1, "b", 0), (2, "b", 0), (2, "c", 0), (1, "x", 0), (1, "", 0),
            (1, "a", -1), (1, "a", -(10 ** 59)),
        ]:
            self.assertIs(self.shown((first[0], [*first[1], row]), second), False, row)
            # Also where the bound itself is easily reached.
            self.assertIs(shows(self.roll, "a", -(10 ** 60), [(first[0], [row]), second]), False, row)
        for row in [(1, "a", 0), (2, "a", 0), (1, "c", 0)]:
            self.assertIs(self.shown((first[0], [*first[1], row]), second), True, row)

    def test_wrong_weights(self):
        first, second = self.paper
        heavy = [(at, option, 2 * weight) for at, option, weight in first[1]]
        self.assertIs(self.shown((first[0], heavy), second), False)
        self.assertIs(self.shown((first[0], []), second), False)
        self.assertIs(self.shown(first, (second[0], ())), False)
        great = [(at, option, 10 ** 59 * weight) for at, option, weight in second[1]]
        self.assertIs(self.shown(first, (second[0], great)), False)

    def test_one_option(self):
        roll = Roll(["a"], [(("a",), 3)])
        self.assertEqual(turning_paper(roll, "a"), [((), ())])
        self.assertIs(shows(roll, "a", 0, [((), [])]), True)
        self.assertIs(shows(roll, "a", 1, [((), [])]), False)
        self.assertIs(shows(roll, "a", 0, [((), [(1, "a", 0)])]), False)
        self.assertIs(shows(roll, "a", 0, []), False)


if __name__ == "__main__":
    unittest.main()
