"""Judging tables and plans [42, 43]."""

import random
import unittest

from helpers import Case
from making import day_book
from rounds import least, plus, some_games
from turnsandkeys.deeds import outcomes
from turnsandkeys.errors import BadPlan, BadTable
from turnsandkeys.houses import House
from turnsandkeys.judging import shown_by_plan, shown_by_table
from turnsandkeys.pages import Book
from turnsandkeys.papers import decide
from turnsandkeys.rules import TurnRule
from turnsandkeys.standings import first_standings, is_standing, moves

MEMBERS = ["ann", "ben"]
DAY = House([TurnRule("day", MEMBERS, limit=1, deposit=3)], day_book())
FREE = ("mon", "day", "", (0, 0))
LATE_ANN = ("mon", "day", "ann", (0, 1))
LATE_BEN = ("mon", "day", "ben", (1, 0))
ROWS = [
    (FREE, "ann", 3), (("mon", "day", "", (0, 1)), "ben", 3), (LATE_ANN, "", 0),
    (("mon", "day", "", (1, 0)), "ann", 3), (LATE_BEN, "", 0),
]
PASSED = ((), "", "", "")
PLAN = [
    (FREE, 3, 2, (
        ("ann", (("ann",), "ann", "day", "mon")), ("ben", (("ben",), "ben", "day", "mon")), ("", ((), "", "day", "mon")),
    )),
    (LATE_ANN, 0, 1, (("", PASSED),)),
    (LATE_BEN, 0, 1, (("", PASSED),)),
    (("mon", "day", "", (1, 1)), 0, 1, (("ann", (("ann",), "", "", "")), ("ben", (("ben",), "", "", "")), ("", PASSED))),
]


def reaches(price, other):
    """True if the first price is at least the other one."""
    return least([price, other]) == other


def table_by_hand(house, rows):
    """The least price, or the place and the reason for which the rows are no closed table."""
    for place, (standing, move, price) in enumerate(rows):
        if not is_standing(house, standing) or standing in [row[0] for row in rows[:place]]:
            return (place, "standing")
        if move not in moves(house, standing):
            return (place, "move")
        if price is not None and price < 0:
            return (place, "price")
    prices = {standing: price for standing, _, price in rows}
    for place, (standing, move, price) in enumerate(rows):
        for _, cost, fault, after in outcomes(house, standing, move):
            if not (reaches(cost, price) if fault else after in prices and reaches(plus(cost, prices[after]), price)):
                return (place, "deed")
    if any(first not in prices for first in first_standings(house)):
        return (len(rows), "start")
    return least([prices[first] for first in first_standings(house)])


def plan_by_hand(house, rows):
    """The least price, or the place and the reason for which the rows are no falling plan."""
    for place, (standing, price, _, answers) in enumerate(rows):
        if not is_standing(house, standing) or standing in [row[0] for row in rows[:place]]:
            return (place, "standing")
        if price < 0:
            return (place, "price")
        if [move for move, _ in answers] != moves(house, standing):
            return (place, "moves")
    marks = {standing: (price, rounds) for standing, price, rounds, _ in rows}
    for place, (standing, price, rounds, answers) in enumerate(rows):
        for move, deed in answers:
            told = {row[0]: row[1:] for row in outcomes(house, standing, move)}
            if deed not in told:
                return (place, "deed")
            cost, fault, after = told[deed]
            if fault and cost <= price:
                continue
            if fault or after not in marks or marks[after][1] >= rounds or cost + marks[after][0] > price:
                return (place, "fall")
    prices = [marks[first][0] for first in first_standings(house) if first in marks]
    return min(prices) if prices else (len(rows), "start")


class TableTest(Case):
    def wrong(self, place, why, rows, house=DAY):
        self.assertEqual(table_by_hand(house, rows), (place, why))
        self.fails(BadTable, {"place": place, "why": why}, shown_by_table, house, rows)

    def test_right_tables(self):
        self.has_parameters(shown_by_table, "house", "rows")
        rows = list(ROWS)
        self.assertEqual(shown_by_table(DAY, rows), 3)
        self.assertEqual(rows, ROWS)
        self.assertEqual(shown_by_table(house=DAY, rows=tuple(ROWS)), 3)
        self.assertEqual(shown_by_table(DAY, ROWS[::-1]), 3)
        # Lower prices show less, but are shown, too.
        self.assertEqual(shown_by_table(DAY, [(standing, move, min(price, 2)) for standing, move, price in ROWS]), 2)
        self.assertEqual(shown_by_table(DAY, [(standing, move, 0) for standing, move, _ in ROWS]), 0)

    def test_never_broken(self):
        house = DAY.changed(limit=None)
        after = ("mon", "day", "ann", (0, 0))
        rows = [(FREE, "ann", None), (after, "", None)]
        self.assertIsNone(shown_by_table(house, rows))
        self.assertEqual(shown_by_table(house, [(FREE, "ann", 10 ** 50), (after, "", 10 ** 50)]), 10 ** 50)
        self.assertEqual(shown_by_table(house, [(FREE, "ann", 8), (after, "", 5)]), 5 + 3)
        self.wrong(0, "deed", [(FREE, "ann", 9), (after, "", 5)], house)
        self.wrong(0, "deed", [(FREE, "ann", None), (after, "", 5)], house)
        self.wrong(1, "deed", [(FREE, "ann", 10 ** 50), (after, "", None)], house)
        self.wrong(2, "deed", [*ROWS[:2], (LATE_ANN, "", None), *ROWS[3:]])

    def test_standing(self):
        for wrong in (("tue", "day", "", (0, 0)), ("mon", "x", "", (0, 0)), ("mon", "day", "x", (0, 0)), ("mon", "day", "", (0, 2))):
            for place in range(5):
                self.wrong(place, "standing", [*ROWS[:place], (wrong, "x", -1), *ROWS[place + 1:]])
        for place in range(1, 5):
            self.wrong(place, "standing", [*ROWS[:place], (ROWS[0][0], "x", -1), *ROWS[place + 1:]])
        self.wrong(5, "standing", [*ROWS, ROWS[2]])

    def test_move_and_price(self):
        for place in range(5):
            standing, move, _ = ROWS[place]
            for wrong in ("x", "mon", "day"):
                self.wrong(place, "move", [*ROWS[:place], (standing, wrong, -1), *ROWS[place + 1:]])
            for price in (-1, -(10 ** 59)):
                self.wrong(place, "price", [*ROWS[:place], (standing, move, price), *ROWS[place + 1:]])
        self.wrong(2, "move", [*ROWS[:2], (LATE_ANN, "ann", 0), *ROWS[3:]])

    def test_deed(self):
        for place in range(5):
            standing, move, price = ROWS[place]
            self.wrong(place, "deed", [*ROWS[:place], (standing, move, price + 1), *ROWS[place + 1:]])
        # The standings after the outcomes of the first row have no rows.
        for place in (1, 2):
            self.wrong(0, "deed", [*ROWS[:place], *ROWS[place + 1:]])
        self.wrong(1, "deed", [*ROWS[:1], (ROWS[1][0], "ann", 3), *ROWS[2:]])

    def test_start(self):
        self.wrong(0, "start", [])
        self.wrong(1, "start", [(LATE_ANN, "", 0)])
        book = Book(MEMBERS, [("mon", [], []), ("tue", [], [])], ["mon", "tue"])
        house = House([TurnRule("day", MEMBERS)], book)
        rows = [(("mon", "day", "", (0, 0)), "", 4), (("tue", "day", "", (0, 0)), "", 3)]
        self.assertEqual(shown_by_table(house, rows), 3)
        self.wrong(1, "start", rows[:1], house)
        self.wrong(1, "start", rows[1:], house)

    def test_first_of_several(self):
        self.wrong(1, "price", [ROWS[0], (ROWS[1][0], "ben", -1), (LATE_ANN, "x", 0)])
        self.wrong(3, "move", [(FREE, "ann", 9), *ROWS[1:3], (ROWS[3][0], "x", 0)])
        self.wrong(0, "deed", [(FREE, "ann", 9), (ROWS[1][0], "ann", 9)])

    def test_table_without_some_standings(self):
        # A first standing with two pages: only the moves of the table count.
        rows = [(FREE, "", 0), (("mon", "day", "", (1, 1)), "ann", 0)]
        self.assertEqual(shown_by_table(DAY, rows), 0)

    def test_at_random(self):
        chance = random.Random(420)
        seen = set()
        for house, game in some_games(chance, 60, most=40):
            rows = [(standing, game.best_move(standing), game.price_of(standing)) for standing in game]
            self.assertEqual(shown_by_table(house, rows), table_by_hand(house, rows))
            for _ in range(12):
                changed = some_rows(chance, rows, [self.some_price, self.some_move], house)
                expected = table_by_hand(house, changed)
                seen.add(expected[1] if isinstance(expected, tuple) else "shown")
                if isinstance(expected, tuple):
                    self.wrong(*expected, changed, house)
                else:
                    self.assertEqual(shown_by_table(house, changed), expected)
        self.assertEqual(seen, {"shown", "standing", "move", "price", "deed", "start"})

    def some_price(self, chance, row):
        return (*row[:2], None if row[2] is None or chance.random() < 0.1 else row[2] + chance.choice([-3, -1, 1]))

    def some_move(self, chance, row):
        return (row[0], chance.choice(["", "x", *row[0][:2]]), row[2])


def some_rows(chance, rows, changes, house):
    """The rows with one or two changes: one left out, two in other places, one twice, or one with another part."""
    changed = list(rows)
    for _ in range(chance.randint(1, 2)):
        at = chance.randrange(len(changed)) if changed else 0
        kind = chance.randrange(5)
        if not changed or kind == 0:
            changed = changed[:at] + changed[at + 1:]
        elif kind == 1:
            chance.shuffle(changed)
        elif kind == 2:
            page, rule, keeper, passes = changed[at][0]
            other = chance.choice([("x", rule, keeper, passes), (page, rule, chance.choice(house.members), passes), (page, rule, "", passes[1:])])
            changed[at] = (other, *changed[at][1:])
        else:
            changed[at] = chance.choice(changes)(chance, changed[at])
    return changed


class PlanTest(Case):
    def wrong(self, place, why, rows, house=DAY):
        self.assertEqual(plan_by_hand(house, rows), (place, why))
        self.fails(BadPlan, {"place": place, "why": why}, shown_by_plan, house, rows)

    def with_row(self, place, row):
        return [*PLAN[:place], row, *PLAN[place + 1:]]

    def test_right_plans(self):
        self.has_parameters(shown_by_plan, "house", "rows")
        rows = list(PLAN)
        self.assertEqual(shown_by_plan(DAY, rows), 3)
        self.assertEqual(rows, PLAN)
        self.assertEqual(shown_by_plan(house=DAY, rows=tuple(PLAN)), 3)
        self.assertEqual(shown_by_plan(DAY, PLAN[::-1]), 3)
        # Higher prices and more rounds are enough, too; the numbers of the rounds can be any that fall.
        self.assertEqual(shown_by_plan(DAY, [(standing, price + 5, rounds * 7 - 9, answers) for standing, price, rounds, answers in PLAN]), 8)

    def test_standing(self):
        for wrong in (("tue", "day", "", (0, 0)), ("mon", "x", "", (0, 0)), ("mon", "day", "x", (0, 0)), ("mon", "day", "", (0, 2))):
            for place in range(4):
                self.wrong(place, "standing", self.with_row(place, (wrong, -1, 0, ())))
        for place in range(1, 4):
            self.wrong(place, "standing", self.with_row(place, (FREE, -1, 0, ())))
        self.wrong(4, "standing", [*PLAN, PLAN[1]])

    def test_price_and_moves(self):
        for place in range(4):
            standing, price, rounds, answers = PLAN[place]
            self.wrong(place, "price", self.with_row(place, (standing, -1, rounds, ())))
            more = (*answers, ("", PASSED))
            for wrong in ((), answers[1:], more, (("x", PASSED), *answers[1:]), (("x", PASSED), *answers)):
                self.wrong(place, "moves", self.with_row(place, (standing, price, rounds, wrong)))
        for answers in (PLAN[0][3][::-1], (PLAN[0][3][1], PLAN[0][3][0], PLAN[0][3][2])):
            self.wrong(0, "moves", self.with_row(0, (FREE, 3, 2, answers)))

    def test_deed(self):
        ann, ben, nobody = PLAN[0][3]
        for deed in (PASSED, (("ben",), "ann", "day", "mon"), (("ann",), "ann", "day", "tue"), (("ann",), "ben", "day", "mon")):
            self.wrong(0, "deed", self.with_row(0, (FREE, 3, 2, (("ann", deed), ben, nobody))))
            self.wrong(0, "deed", self.with_row(0, (FREE, 3, 2, (ann, ("ben", deed if deed[0] != ("ben",) else PASSED), nobody))))
        self.wrong(2, "deed", self.with_row(2, (LATE_BEN, 0, 1, (("", ((), "ben", "day", "mon")),))))

    def test_fall(self):
        _, ben, nobody = PLAN[0][3]
        self.wrong(0, "fall", self.with_row(0, (FREE, 2, 2, PLAN[0][3])))
        for rounds in (1, 0, -5):
            self.wrong(0, "fall", self.with_row(0, (FREE, 3, rounds, PLAN[0][3])))
        self.wrong(0, "fall", self.with_row(1, (LATE_ANN, 1, 1, PLAN[1][3])))
        self.wrong(0, "fall", self.with_row(1, (LATE_ANN, 0, 2, PLAN[1][3])))
        for place in (1, 2, 3):
            self.wrong(0, "fall", [*PLAN[:place], *PLAN[place + 1:]])
        back = ("ann", (("ann",), "", "day", "mon"))
        self.wrong(0, "fall", self.with_row(0, (FREE, 3, 2, (back, ben, nobody))))

    def test_fault_that_costs_more(self):
        book = Book(MEMBERS, [("mon", [("ann", 0)], [])], ["mon"])
        house = House([TurnRule("day", MEMBERS, barred=["ben"], links=[("ann", "ben", 4)], limit=0)], book)
        held = (("ann",), "ben", "", "")
        for price in (0, 3):
            self.wrong(0, "fall", [(FREE, price, 1, (("ann", held), ("", PASSED)))], house)
        for price in (4, 5):
            self.assertEqual(shown_by_plan(house, [(FREE, price, -7, (("ann", held), ("", PASSED)))]), price)

    def test_first_wrong_answer(self):
        ann, _, nobody = PLAN[0][3]
        back = (("ben",), "", "day", "mon")
        self.wrong(0, "fall", self.with_row(0, (FREE, 3, 2, (ann, ("ben", back), ("", ((), "x", "", ""))))))
        self.wrong(0, "deed", self.with_row(0, (FREE, 3, 2, (("ann", back), ("ben", back), nobody))))

    def test_start(self):
        self.wrong(0, "start", [])
        self.wrong(3, "start", PLAN[1:])
        book = Book(MEMBERS, [("mon", [("ann", 0)], ["mon"]), ("tue", [("ann", 0)], ["mon"])], ["mon", "tue"])
        house = House([TurnRule("day", MEMBERS, limit=0, barred=["ben"], links=[("ann", "ben", 4)])], book)
        answers = (("ann", (("ann",), "ben", "", "")), ("", PASSED))
        rows = [(("mon", "day", "", (0, 0)), 5, 1, answers), (("tue", "day", "", (0, 0)), 4, 1, answers)]
        # One first standing is enough, and the least price counts.
        self.assertEqual(shown_by_plan(house, rows), 4)
        self.assertEqual(shown_by_plan(house, rows[:1]), 5)
        self.assertEqual(shown_by_plan(house, rows[1:]), 4)

    def test_first_of_several(self):
        self.wrong(1, "price", [(FREE, 0, 0, PLAN[0][3]), (LATE_ANN, -1, 0, ()), (LATE_ANN, 0, 0, ())])
        self.wrong(2, "moves", [(FREE, 0, 0, PLAN[0][3]), PLAN[1], (LATE_BEN, 0, 0, ())])
        self.wrong(0, "fall", [(FREE, 0, 0, PLAN[0][3]), (LATE_ANN, 0, 0, (("", ((), "x", "", "")),))])
        self.wrong(1, "deed", [PLAN[1], (LATE_BEN, 0, 0, (("", ((), "x", "", "")),))])

    def test_at_random(self):
        chance = random.Random(430)
        seen = set()
        for house, _ in some_games(chance, 120, most=40, fewest=2):
            price = decide(house, 0).price
            if price is None:
                continue
            rows = decide(house, price).rows()
            self.assertEqual(shown_by_plan(house, rows), plan_by_hand(house, rows))
            for _ in range(12):
                changed = some_rows(chance, rows, [self.some_price, self.some_rounds, self.some_answers], house)
                expected = plan_by_hand(house, changed)
                seen.add(expected[1] if isinstance(expected, tuple) else "shown")
                if isinstance(expected, tuple):
                    self.wrong(*expected, changed, house)
                else:
                    self.assertEqual(shown_by_plan(house, changed), expected)
        self.assertEqual(seen, {"shown", "standing", "price", "moves", "deed", "fall", "start"})

    def some_price(self, chance, row):
        return (row[0], row[1] + chance.choice([-1, 1, 2]), *row[2:])

    def some_rounds(self, chance, row):
        return (*row[:2], row[2] + chance.choice([-1, 1]), row[3])

    def some_answers(self, chance, row):
        answers = list(row[3])
        move, deed = answers[0]
        kind = chance.randrange(3)
        if kind == 0:
            answers.append(answers[0])
        elif kind == 1:
            answers[0] = (move, (deed[0], "", *deed[2:]))
        else:
            answers[0] = (move, (deed[0], deed[1], "x", deed[3]))
        return (*row[:3], tuple(answers))


if __name__ == "__main__":
    unittest.main()
