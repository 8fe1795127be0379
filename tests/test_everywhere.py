"""What holds of every call of the later parts, and of all parts put together [2, 3]."""

import random
import unittest

from desks import all_seen, small_house
from helpers import Case, laid_open
from making import some_house
from rounds import greatest, some_games
from turnsandkeys.barren import barren_row
from turnsandkeys.bounds import sure_price
from turnsandkeys.broken import best_habit, cheapest_row, habit_price, habit_rows, parting
from turnsandkeys.calls import cheapest_calls, keeps_wishes, latest_taking
from turnsandkeys.desk import Desk
from turnsandkeys.errors import HouseError
from turnsandkeys.games import Game, house_price
from turnsandkeys.habits import Habit
from turnsandkeys.holding import far_keeper_prices, hold_tolls, holder_prices, keeper_prices
from turnsandkeys.holdings import cheapest_holding, holding_price
from turnsandkeys.judging import shown_by_table
from turnsandkeys.least import least_deposit, least_fee, least_limit, least_start
from turnsandkeys.ledgers import ledger
from turnsandkeys.papers import Plan, Table, decide
from turnsandkeys.reading import read_house
from turnsandkeys.rules import TurnRule
from turnsandkeys.script import run_script
from turnsandkeys.shutting import fewest_shut, guarded
from turnsandkeys.standings import first_standings, moves
from turnsandkeys.told import lasting, lendings, row_price
from turnsandkeys.writing import write_house

HOUSE = small_house()
STANDING = ("mon", "day", "", (1, 0))
ROW = [("mon", "day", True), ("mon", "hard", False), ("tue", "day", False)]
ROUNDS = [("mon", "day"), ("tue", "day"), ("end", "hard")]
HOLDING = [(("ben",), "ben"), ((), "ben"), ((), "")]
WISHES = [("ann", 1, 4), ("ben", 3, 9)]
LONG, FIRST = Habit.read("long"), Habit()

RIGHT = [
    (LONG, HOUSE, STANDING), (Habit.read, "over 1, not ann"), (cheapest_row, LONG, HOUSE), (habit_price, FIRST, HOUSE),
    (habit_rows, LONG, HOUSE), (best_habit, HOUSE, FIRST, LONG), (parting, FIRST, LONG, HOUSE), (lendings, HOUSE, ROW),
    (lasting, HOUSE, ROW), (row_price, HOUSE, ROW), (barren_row, HOUSE), (hold_tolls, HOUSE, "mon", "day"),
    (keeper_prices, HOUSE, ROUNDS), (far_keeper_prices, HOUSE, "mon", "hard", 9), (holder_prices, HOUSE, ROUNDS),
    (cheapest_holding, HOUSE, ROUNDS, ""), (holding_price, HOUSE, ROUNDS, HOLDING), (latest_taking, HOUSE, ROUNDS, WISHES[0]),
    (keeps_wishes, HOUSE, ROUNDS, WISHES, [1, 2]), (cheapest_calls, HOUSE, ROUNDS, WISHES, [4, 5, 6]),
    (least_deposit, HOUSE, 5), (least_fee, HOUSE, 6), (least_limit, HOUSE, 4), (least_start, HOUSE, 7),
    (fewest_shut, HOUSE, "hard", 7), (guarded, HOUSE, "hard", 9),
]
WRONG = [
    (LONG, HOUSE, ("mon", "day", "", (9, 0))), (Habit.read, "over 1,not ann"), (Habit, *[LONG] * 5),
    (lendings, HOUSE, [*ROW, ("x", "day", True)]), (lasting, HOUSE, [("end", "day", True)]), (row_price, HOUSE, [*ROW, ("end", "day", False)]),
    (hold_tolls, HOUSE, "x", "day"), (keeper_prices, HOUSE, [*ROUNDS, ("mon", "x")]), (far_keeper_prices, HOUSE, "mon", "hard", -1),
    (holder_prices, HOUSE, [("x", "day")]), (cheapest_holding, HOUSE, ROUNDS, "x"), (holding_price, HOUSE, ROUNDS, HOLDING[:2]),
    (latest_taking, HOUSE, ROUNDS, ("ann", 4, 1)), (keeps_wishes, HOUSE, ROUNDS, WISHES, [1, 4]),
    (cheapest_calls, HOUSE, ROUNDS, WISHES, [4, 5]), (least_deposit, HOUSE, 0), (least_fee, HOUSE, -1), (least_limit, HOUSE, 0),
    (least_start, HOUSE, 0), (fewest_shut, HOUSE, "x", 2), (guarded, HOUSE, "hard", -1),
]


def in_tuples(thing):
    return tuple(in_tuples(part) for part in thing) if isinstance(thing, list) else thing


class CallsTest(Case):
    def test_arguments_stay_and_tuples_are_right_too(self):
        for call, *args in RIGHT:
            before = laid_open([call, args])
            found = laid_open(call(*args))
            self.assertEqual(laid_open([call, args]), before, call)
            self.assertEqual(laid_open(call(*[in_tuples(part) for part in args])), found, call)

    def test_lists_that_are_returned_are_new(self):
        for call, *args in RIGHT:
            found = call(*args)
            if isinstance(found, list):
                kept = laid_open(found)
                for part in found:
                    if isinstance(part, list):
                        part.clear()
                found.append("changed")
                self.assertEqual(laid_open(call(*args)), kept, call)
        self.assertEqual(HOUSE, small_house())

    def test_nothing_has_changed_after_an_error(self):
        for call, *args in WRONG:
            before = laid_open([call, args])
            for kind in (list, in_tuples):
                with self.assertRaises(HouseError):
                    call(*[kind(part) if isinstance(part, list) else part for part in args])
            self.assertEqual(laid_open([call, args]), before, call)

    def test_papers_of_least_stay(self):
        found = least_deposit(HOUSE, 5)
        self.assertEqual(found.number, 3)
        rows = found.plans[0].rows()
        rows.clear()
        self.assertTrue(found.plans[0].rows())
        self.assertEqual(len(found.plans[0].rows()), len(found.plans[0]))

    def test_desks_keep_what_they_are_passed(self):
        desk = Desk(HOUSE)
        links = [["ben", "ann", 1]]
        desk.amend("hard", links=[tuple(link) for link in links])
        parts = {"links": [("ben", "ann", 2)], "barred": ["ann"]}
        desk.amend("hard", **parts)
        before = all_seen(desk)
        parts["links"].append(("ann", "ben", 9))
        parts["barred"].clear()
        self.assertEqual(all_seen(desk), before)
        list(desk.log()).append("changed")
        self.assertEqual(all_seen(desk), before)
        # The house that was passed, and the ones that came after it, are as before.
        house = desk.house_now
        kept = laid_open(house)
        desk.several(("put", ("hard",)), ("lend", "ann"), ("do", (("ann",), "", "day", "mon")))
        desk.amend("day", deposit=9)
        self.assertEqual((laid_open(house), HOUSE), (kept, small_house()))


class TogetherTest(Case):
    def test_bounds_of_the_price(self):
        chance = random.Random(20)
        for house, _ in some_games(chance, 80, most=80):
            price = house_price(house)
            self.assertEqual(greatest([price, sure_price(house)]), price)
            if all(isinstance(rule, TurnRule) for rule in house.rules):
                price = habit_price(LONG, house)
                self.assertEqual(greatest([price, sure_price(house)]), price)

    def test_written_houses_do_the_same(self):
        chance = random.Random(21)
        for _ in range(60):
            house = some_house(chance)
            again = read_house(write_house(house))
            self.assertEqual(again, house)
            try:
                expected = laid_open([house_price(house), barren_row(house)])
            except HouseError as error:
                with self.assertRaises(type(error)):
                    laid_open([house_price(again), barren_row(again)])
            else:
                self.assertEqual(laid_open([house_price(again), barren_row(again)]), expected)

    def test_a_plan_breaks_the_house_at_the_desk(self):
        chance = random.Random(22)
        broken = 0
        for house, _ in some_games(chance, 120, most=60):
            price = house_price(house)
            if price is None:
                continue
            plan = decide(house, price)
            self.assertIs(type(plan), Plan)
            rounds = dict((row[0], row[2]) for row in plan.rows())
            desk = Desk(house, start=plan.first[0])
            self.assertEqual(desk.left, price)
            for _ in range(rounds[plan.first]):
                if desk.fault_now is None:
                    standing = desk.standing_now
                    move = chance.choice(moves(desk.house_now, standing))
                    desk.lend(move)
                    desk.do(plan(standing, move))
            self.assertIsNotNone(desk.fault_now)
            self.assertLessEqual(desk.spent, price)
            broken += 1
        self.assertGreater(broken, 20)

    def test_a_table_holds_at_the_desk(self):
        chance = random.Random(23)
        for house, _ in some_games(chance, 60, most=60):
            price = house_price(house)
            if price == 0:
                continue
            table = decide(house, 0)
            self.assertIs(type(table), Table)
            self.assertEqual(shown_by_table(house, table.rows()), price)
            for start in house.book.starts:
                desk = Desk(house, start=start)
                for _ in range(12):
                    if desk.standing_now is None:
                        break
                    self.assertEqual(desk.advice(), table(desk.standing_now))
                    run_script(desk, f"lend {desk.advice() or '-'}")
                    threat = desk.threat()
                    if threat is None or chance.random() < 0.2:
                        break
                    desk.do(threat[0])
                if desk.fault_now is not None:
                    self.assertIsNotNone(price)
                    self.assertGreaterEqual(desk.spent, price)
                self.assertEqual(len(ledger(desk).split("\n")), 1 + len(list(desk.log())) + (desk.fault_now is not None))

    def test_a_broken_row_at_the_desk(self):
        chance = random.Random(24)
        for house, _ in some_games(chance, 60, most=60):
            row = cheapest_row(LONG, house)
            if row is None:
                continue
            desk = Desk(house, start=row.rounds[0][0][0])
            for standing, move, deed in row.rounds:
                self.assertEqual((desk.standing_now, LONG(house, standing)), (standing, move))
                desk.several(("lend", move), ("do", deed))
            self.assertEqual((desk.fault_now, desk.spent, desk.undoable), (row.fault, row.price, min(20, len(row.rounds))))

    def test_lendings_at_the_desk(self):
        # No promise is broken along a told row if the moves are the lendings.
        desk = Desk(HOUSE)
        row = [("mon", "day", False), ("mon", "day", False), ("tue", "hard", False)]
        for (page, _, _), move, (after, rule, _) in zip(row, lendings(HOUSE, row), row[1:]):
            self.assertEqual(desk.standing_now[0], page)
            desk.several(("lend", move), ("do", ((move,), "", rule, after)))
        self.assertIsNone(desk.fault_now)

    def test_least_numbers_are_enough(self):
        chance = random.Random(25)
        for house, _ in some_games(chance, 20, most=30):
            price = chance.randint(1, 5)
            found = least_deposit(house, price)
            if found.number is not None:
                changed = house.changed(deposit=found.number)
                game = Game(changed)
                self.assertTrue(all(
                    game.price_of(first) is None or game.price_of(first) >= price for first in first_standings(changed)
                ))


if __name__ == "__main__":
    unittest.main()
