"""Habits: reading them, telling them, and the moves that they make [47, 48]."""

import inspect
import itertools
import random
import unittest

from habits import move_by_hand, some_text
from helpers import Case
from making import some_house
from turnsandkeys.errors import BadCount, BadStanding, BadStep
from turnsandkeys.habits import Habit
from turnsandkeys.houses import House
from turnsandkeys.pages import Book
from turnsandkeys.rules import BidRule, TurnRule
from turnsandkeys.standings import is_standing, moves
from turnsandkeys.steps import Dearest, Longest, Over, Safest, Wait, Without

MEMBERS = ["ann", "ben", "cid", "dan"]
BIDS = [("ann", 2), ("ben", 5), ("cid", 5), ("dan", 0)]
CLASSES = {"long": Longest, "dear": Dearest, "safe": Safest, "over": Over, "wait": Wait, "not": Without}
TOLD = ["long", "dear", "safe", "over 0", "over 3", "wait 0", "wait 3", "not ann", "not nobody"]


def one_page(rule=None, bids=BIDS):
    rule = TurnRule("day", MEMBERS, limit=3) if rule is None else rule
    return House([rule], Book(MEMBERS, [("mon", bids, ["mon"])], ["mon"]))


def at(*passes, keeper=""):
    return ("mon", "day", keeper, passes)


class TextTest(Case):
    def test_kinds(self):
        self.has_parameters(Habit, "*steps")
        self.has_parameters(Habit.read, "text")
        self.has_parameters(Habit.__call__, "self", "house", "standing")
        self.assertIsInstance(inspect.getattr_static(Habit, "read"), classmethod)
        self.assertLessEqual({"told", "read", "__call__"}, set(vars(Habit)))

    def test_sizes(self):
        for size in range(5):
            steps = [Over(1)] * size
            habit = Habit(*steps)
            self.assertEqual(habit.steps, tuple(steps))
            self.assertIs(type(habit.steps), tuple)
            self.assertEqual(habit.told(), ", ".join(["over 1"] * size))
        self.assertEqual(Habit().told(), "")
        for size in (5, 6, 9):
            self.fails(BadCount, {"size": size}, Habit, *[Longest()] * size)

    def test_every_kind_of_habit(self):
        for size in range(3):
            for parts in itertools.product(TOLD, repeat=size):
                self.is_read_back(", ".join(parts))
        chance = random.Random(470)
        for _ in range(300):
            self.is_read_back(some_text(chance, MEMBERS))

    def is_read_back(self, text):
        habit = Habit.read(text)
        self.assertIs(type(habit), Habit)
        self.assertEqual((habit.told(), Habit.read(text=text).told()), (text, text))
        parts = text.split(", ") if text else []
        self.assertEqual([type(step) for step in habit.steps], [CLASSES[part.split()[0]] for part in parts])
        self.assertEqual(Habit(*habit.steps).told(), text)

    def test_wrong_parts(self):
        for part in (
            "", " ", "long ", " long", "lo", "longer", "Long", "dear 1", "over", "over ", "over  1", "over 4", "over 12",
            "over 00", "over -1", "over x", "over 1 ", "wait", "wait 4", "wait 33", "not", "not ", "not  ann", "not Ann",
            "not abcdefghi", "not ann ben", "not ann ", "not a1", "over 1,wait 2", "long,dear", ",", "long,", ",long", "told",
            "over 1\n", "safe safe",
        ):
            if part:
                self.fails(BadStep, {"place": 0}, Habit.read, part)
            for before in range(4):
                text = ", ".join([*["wait 0"] * before, part, "x", "not x"])
                self.fails(BadStep, {"place": before}, Habit.read, text)
        self.fails(BadStep, {"place": 0}, Habit.read, "over 2,not ann")

    def test_commas(self):
        for text, place in (
            (", long", 0), ("long, ", 1), ("long,  dear", 1), ("long , dear", 0), ("long, , dear", 1), (",", 0), (", ", 0),
            ("long,, dear", 0), ("long, dear,", 1), ("long,dear, safe", 0), (", , , , ,", 0),
        ):
            self.fails(BadStep, {"place": place}, Habit.read, text)

    def test_too_many_parts(self):
        four = "long, over 1, not ann, wait 2"
        self.assertEqual(len(Habit.read(four).steps), 4)
        for end in ("safe", "x", "", "safe, x", "safe, safe, safe"):
            self.fails(BadStep, {"place": 4}, Habit.read, f"{four}, {end}")
        self.fails(BadStep, {"place": 3}, Habit.read, "long, over 1, not ann, wait 4, safe")
        self.fails(BadStep, {"place": 1}, Habit.read, "long, x, not ann, wait 4, safe, y")


class MoveTest(Case):
    def expect(self, text, standing, move, house=None):
        house = one_page() if house is None else house
        self.assertEqual(Habit.read(text)(house, standing), move, text)
        self.assertEqual(move_by_hand(text, house, standing), move, text)

    def test_no_choice(self):
        for text in ("", "long", "not ann", "wait 0, dear"):
            self.expect(text, at(0, 0, 0, 0, keeper="ben"), "")
            self.expect(text, at(0, 0, 0, 0), "", one_page(bids=[]))
            self.expect(text, at(0, 0, 0, 0), "", one_page(TurnRule("day", MEMBERS, barred=["ann"]), [("ann", 1)]))
            self.expect(text, at(0, 0, 0, 0), "", one_page(BidRule("day", MEMBERS)))

    def test_without_steps(self):
        self.expect("", at(0, 3, 1, 0), "ann")
        self.expect("", at(0, 0, 0, 0), "ben", one_page(bids=[("dan", 0), ("ben", 0)]))
        self.expect("", at(0, 0, 0, 0), "ben", one_page(TurnRule("day", MEMBERS, barred=["ann"])))

    def test_plain_steps(self):
        self.expect("long", at(0, 1, 3, 3), "cid")
        self.expect("long", at(0, 0, 0, 0), "ann")
        self.expect("dear", at(3, 0, 0, 3), "ben")
        self.expect("dear", at(0, 0, 0, 0), "ann", one_page(bids=[("ann", 0), ("ben", 0)]))

    def test_safe(self):
        parts = {"barred": ["dan"], "links": [("ann", "dan", 3), ("ben", "ann", 4)]}
        house = one_page(TurnRule("day", MEMBERS, **parts))
        # From cid there is no way to a barred member, so this is the safest one.
        self.expect("safe", at(0, 0, 0, 0), "cid", house)
        self.expect("not cid, safe", at(0, 0, 0, 0), "ben", house)
        self.expect("safe", at(0, 0, 0, 0), "ann", one_page(TurnRule("day", MEMBERS, links=parts["links"])))
        both = one_page(TurnRule("day", MEMBERS, barred=["dan"], links=[("ann", "dan", 3), ("ben", "dan", 7), ("cid", "dan", 7)]))
        self.expect("safe", at(0, 0, 0, 0), "ben", both)

    def test_over_and_not(self):
        self.expect("over 2", at(1, 2, 3, 0), "ben")
        self.expect("over 3", at(1, 2, 3, 0), "cid")
        self.expect("over 3", at(1, 2, 2, 0), "ann")
        self.expect("over 0", at(0, 0, 0, 0), "ann")
        self.expect("not ann", at(0, 0, 0, 0), "ben")
        self.expect("not ann, not ben, not cid, not dan", at(0, 0, 0, 0), "dan")
        self.expect("not zoe", at(0, 0, 0, 0), "ann")
        self.expect("not ann", at(0, 0, 0, 0), "ann", one_page(bids=[("ann", 1)]))

    def test_wait(self):
        self.expect("wait 2", at(0, 2, 1, 0), "ann")
        self.expect("wait 2", at(0, 1, 1, 0), "")
        self.expect("wait 0", at(0, 0, 0, 0), "ann")
        self.expect("wait 3", at(3, 3, 3, 3), "ann")
        # Only those count whom the steps before have left.
        self.expect("not ben, wait 2", at(0, 2, 1, 0), "")
        self.expect("wait 2, not ben", at(0, 2, 1, 0), "ann")
        self.expect("long, wait 2, dear", at(2, 2, 1, 0), "ben")
        self.expect("wait 2, not ann", at(0, 1, 1, 0), "")
        self.expect("wait 1", at(0, 0, 0, 2), "", one_page(bids=[("ann", 0), ("cid", 3)]))

    def test_several(self):
        self.expect("over 1, dear", at(3, 0, 1, 1), "cid")
        self.expect("dear, over 1", at(3, 0, 1, 1), "cid")
        self.expect("dear, not ben, not cid", at(0, 0, 0, 0), "cid")
        self.expect("long, dear, not cid, wait 3", at(1, 2, 2, 2), "")

    def test_at_random(self):
        chance = random.Random(480)
        seen = set()
        for _ in range(500):
            house = some_house(chance, members=4)
            text = some_text(chance, house.members)
            for _ in range(8):
                passes = tuple(chance.randint(0, house.most) for _ in house.members)
                keeper = chance.choice(["", "", "", *house.members])
                standing = (chance.choice(house.book.names), chance.choice(house.names), keeper, passes)
                habit = Habit.read(text)
                if not is_standing(house, standing):
                    self.fails(BadStanding, {"standing": standing}, habit, house, standing)
                    continue
                move = habit(house=house, standing=standing)
                self.assertEqual(move, move_by_hand(text, house, standing), text)
                self.assertIn(move, moves(house, standing))
                seen.add(house.members.index(move) if move else "")
        self.assertEqual(len(seen), 5)

    def test_bad_standing(self):
        house = one_page(TurnRule("day", MEMBERS, limit=2, barred=["dan"]))
        for standing in (
            ("tue", "day", "", (0, 0, 0, 0)), ("mon", "mon", "", (0, 0, 0, 0)), at(0, 0, 0, 0, keeper="dan"),
            at(0, 0, 0, 0, keeper="x"), at(0, 0, 3, 0), at(0, 0, 0), at(0, 0, 0, -1),
        ):
            for habit in (Habit(), Habit(Longest(), Wait(3))):
                self.fails(BadStanding, {"standing": standing}, habit, house, standing)
        self.assertEqual(self.keeps_arguments(Habit(Longest()), house, at(0, 2, 1, 0)), "ben")


if __name__ == "__main__":
    unittest.main()
