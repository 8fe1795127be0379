"""Tables and plans that answer for a purse [44]."""

import random
import unittest

from helpers import Case
from making import day_book
from rounds import some_games
from test_games import large_house
from turnsandkeys.deeds import outcome, outcomes
from turnsandkeys.errors import BadNumber, BadStanding, NoMove, TooLarge
from turnsandkeys.games import house_price
from turnsandkeys.houses import House
from turnsandkeys.judging import shown_by_plan, shown_by_table
from turnsandkeys.pages import Book
from turnsandkeys.papers import Paper, Plan, Table, decide
from turnsandkeys.rules import TurnRule
from turnsandkeys.standings import first_standings, moves

MEMBERS = ["ann", "ben"]
DAY = House([TurnRule("day", MEMBERS, limit=1, deposit=3)], day_book())
FREE = ("mon", "day", "", (0, 0))
LATE = ("mon", "day", "ann", (0, 1))
STRANGE = [("mon", "day", "ann", (0, 0)), ("tue", "day", "", (0, 0)), ("mon", "day", "", (0, 2))]


class DecideTest(Case):
    def test_classes(self):
        self.has_parameters(decide, "house", "purse")
        self.assertEqual((Table.__bases__, Plan.__bases__), ((Paper,), (Paper,)))
        for made in (Table, Plan):
            self.assertLessEqual({"__call__", "rows", "told"}, set(vars(made)))
        self.assertLessEqual({"__len__", "__iter__", "__contains__"}, set(vars(Paper)))
        self.has_parameters(Table.__call__, "self", "standing")
        self.has_parameters(Plan.__call__, "self", "standing", "move")

    def test_purses(self):
        for purse in (0, 1, 2):
            paper = decide(DAY, purse)
            self.assertIs(type(paper), Table)
            self.assertEqual((paper.house, paper.price), (DAY, 3))
        for purse in (3, 4, 10 ** 59):
            paper = decide(house=DAY, purse=purse)
            self.assertIs(type(paper), Plan)
            self.assertEqual((paper.house, paper.price, paper.first), (DAY, 3, FREE))
        free = House([TurnRule("day", MEMBERS, limit=0)], day_book())
        self.assertIs(type(decide(free, 0)), Plan)
        self.assertEqual(decide(free, 0).told(), "1 standings, broken for 0 in 1 rounds at most")

    def test_never_broken(self):
        house = DAY.changed(limit=None)
        for purse in (0, 10 ** 59):
            paper = decide(house, purse)
            self.assertIs(type(paper), Table)
            self.assertIsNone(paper.price)
            self.assertEqual(paper.told(), "2 standings, never broken")
            self.assertEqual(paper.rows(), [(FREE, "ann", None), (("mon", "day", "ann", (0, 0)), "", None)])
            self.assertIsNone(shown_by_table(house, paper.rows()))

    def test_errors_in_order(self):
        more = large_house("p", "s")
        for purse in (-1, -(10 ** 59)):
            self.fails(BadNumber, {"number": purse}, decide, more, purse)
            self.fails(BadNumber, {"number": purse}, decide, DAY, purse)
        self.fails(TooLarge, {}, decide, more, 0)
        self.assertLessEqual(len(decide(large_house("p"), 0)), 400)


class TableTest(Case):
    def test_by_hand(self):
        table = decide(DAY, 2)
        self.assertEqual(table.told(), "5 standings, broken for 3 at least")
        self.assertEqual(table.rows(), [
            (FREE, "ann", 3), (("mon", "day", "", (0, 1)), "ben", 3), (LATE, "", 0),
            (("mon", "day", "", (1, 0)), "ann", 3), (("mon", "day", "ben", (1, 0)), "", 0),
        ])
        self.assertEqual(list(table), [row[0] for row in table.rows()])
        self.assertEqual((len(table), table(FREE), table(standing=LATE)), (5, "ann", ""))
        self.assertIs(FREE in table, True)
        for standing in [*STRANGE, ("mon", "day", "", (1, 1))]:
            self.assertIs(standing in table, False)
            self.fails(BadStanding, {"standing": standing}, table, standing)
        self.is_new_list(table.rows)

    def test_at_random(self):
        chance = random.Random(440)
        for house, game in some_games(chance, 60):
            price = house_price(house)
            table = decide(house, 0 if price is None else max(price - 1, 0))
            if price == 0:
                self.assertIs(type(table), Plan)
                continue
            found = first_standings(house)
            rows = []
            for standing in found:
                move = game.best_move(standing)
                rows.append((standing, move, game.price_of(standing)))
                for _, _, _, after in outcomes(house, standing, move):
                    if after is not None and after not in found:
                        found.append(after)
            self.assertEqual(table.rows(), rows)
            self.assertEqual((list(table), len(table), table.price), (found, len(found), price))
            self.assertEqual([table(standing) for standing in found], [row[1] for row in rows])
            self.assertTrue(all(standing in table for standing in found))
            self.assertEqual(shown_by_table(house, table.rows()), price)
            end = "never broken" if price is None else f"broken for {price} at least"
            self.assertEqual(table.told(), f"{len(found)} standings, {end}")


class PlanTest(Case):
    def test_by_hand(self):
        plan = decide(DAY, 3)
        self.assertEqual(plan.told(), "4 standings, broken for 3 in 2 rounds at most")
        passed = ((), "", "", "")
        ann, ben, nobody = (("ann",), "ann", "day", "mon"), (("ben",), "ben", "day", "mon"), ((), "", "day", "mon")
        self.assertEqual(plan.rows(), [
            (FREE, 3, 2, (("ann", ann), ("ben", ben), ("", nobody))),
            (LATE, 0, 1, (("", passed),)),
            (("mon", "day", "ben", (1, 0)), 0, 1, (("", passed),)),
            (("mon", "day", "", (1, 1)), 0, 1, (("ann", (("ann",), "", "", "")), ("ben", (("ben",), "", "", "")), ("", passed))),
        ])
        self.assertEqual(list(plan), [row[0] for row in plan.rows()])
        self.assertEqual((len(plan), plan(FREE, "ann"), plan(standing=FREE, move="")), (4, ann, nobody))
        self.assertIs(LATE in plan, True)
        for standing in [*STRANGE, ("mon", "day", "", (0, 1))]:
            self.assertIs(standing in plan, False)
            self.fails(BadStanding, {"standing": standing}, plan, standing, "x")
        for move in ("x", "mon"):
            self.fails(NoMove, {"move": move}, plan, FREE, move)
        self.fails(NoMove, {"move": "ann"}, plan, LATE, "ann")
        self.is_new_list(plan.rows)

    def test_first_of_the_cheapest_starts(self):
        pages = [(name, [("ann", 0)], ["mon"]) for name in ("mon", "tue", "wed")]
        book = Book(MEMBERS, pages, ["wed", "tue", "mon"], home=["wed"])
        rule = TurnRule("day", MEMBERS, barred=["ben"], links=[("ann", "ben", 4)], limit=0)
        plan = decide(House([rule], book), 4)
        self.assertEqual(plan.first, ("wed", "day", "", (0, 0)))
        # Nobody wishes on the page wed, so a start there costs a round more, but not more coins.
        self.assertEqual(decide(House([rule], book), 3).price, 4)
        cheap = Book(MEMBERS, [("mon", [("ann", 0)], ["mon"]), ("tue", [("ben", 0), ("ann", 0)], ["mon"])], ["mon", "tue"])
        house = House([TurnRule("day", MEMBERS, limit=0)], cheap)
        plan = decide(house, 0)
        self.assertEqual((plan.first, plan.price), (("tue", "day", "", (0, 0)), 0))
        self.assertEqual(list(plan), [("tue", "day", "", (0, 0))])
        self.assertEqual(shown_by_plan(house, plan.rows()), 0)

    def test_at_random(self):
        chance = random.Random(441)
        seen = 0
        for house, game in some_games(chance, 150):
            price = house_price(house)
            if price is None:
                continue
            plan = decide(house, price + chance.randint(0, 2))
            firsts = first_standings(house)
            self.assertEqual(plan.first, [first for first in firsts if game.price_of(first) == price][0])
            found = [plan.first]
            rows = []
            for standing in found:
                mark = (game.price_of(standing), game.rounds_of(standing))
                answers = []
                for move in moves(house, standing):
                    deed = [row[0] for row in outcomes(house, standing, move) if self.is_falling(game, mark, row)][0]
                    answers.append((move, deed))
                    after = outcome(house, standing, move, deed)[2]
                    if after is not None and after not in found:
                        found.append(after)
                rows.append((standing, *mark, tuple(answers)))
                seen = max(seen, mark[1])
            self.assertEqual(plan.rows(), rows)
            self.assertEqual((list(plan), len(plan), plan.price), (found, len(found), price))
            self.assertTrue(all(standing in plan for standing in found))
            self.assertTrue(all(plan(row[0], move) == deed for row in rows for move, deed in row[3]))
            self.assertEqual(shown_by_plan(house, plan.rows()), price)
            rounds = game.rounds_of(plan.first)
            self.assertEqual(plan.told(), f"{len(found)} standings, broken for {price} in {rounds} rounds at most")
        self.assertGreater(seen, 3)

    def is_falling(self, game, mark, row):
        _, cost, fault, after = row
        price, rounds = mark
        if fault:
            return cost <= price
        later = game.price_of(after)
        return later is not None and cost + later <= price and game.rounds_of(after) < rounds


if __name__ == "__main__":
    unittest.main()
