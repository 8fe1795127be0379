"""Broken rows of habits, and where habits part [49]."""

import random
import unittest

from habits import move_by_hand, some_habit
from helpers import Case
from making import day_book, some_house
from rounds import greatest, least, plus, some_games
from test_games import FOUR, large_house
from turnsandkeys.broken import BrokenRow, best_habit, cheapest_row, habit_price, habit_rows, parting
from turnsandkeys.deeds import outcomes
from turnsandkeys.errors import TooLarge
from turnsandkeys.games import house_price
from turnsandkeys.habits import Habit
from turnsandkeys.houses import House
from turnsandkeys.judging import shown_by_table
from turnsandkeys.pages import Book
from turnsandkeys.rules import TurnRule
from turnsandkeys.standings import first_standings

MEMBERS = ["ann", "ben"]
DAY = House([TurnRule("day", MEMBERS, limit=1, deposit=3)], day_book())
FREE = ("mon", "day", "", (0, 0))
LONG, FIRST = Habit.read("long"), Habit()


def closed_course(house, text):
    """The outcomes at each standing that can come while the habit with this text lends."""
    course = {}
    waiting = first_standings(house)
    while waiting:
        standing = waiting.pop(0)
        if standing not in course:
            move = move_by_hand(text, house, standing)
            course[standing] = (move, outcomes(house, standing, move))
            waiting.extend([after for _, _, _, after in course[standing][1] if after is not None])
    return course


def prices_along(course):
    """The least price of a breach from each standing, reckoned round by round."""
    prices = {standing: None for standing in course}
    while True:
        later = {
            standing: least([price if fault else plus(price, prices[after]) for _, price, fault, after in told])
            for standing, (_, told) in course.items()
        }
        if later == prices:
            return prices
        prices = later


def all_rows(course, firsts):
    """All broken rows in which no standing comes twice, with their keys: price, rounds, places."""
    stack = [(0, (at,), (), first) for at, first in enumerate(firsts)]
    while stack:
        price, places, rounds, standing = stack.pop()
        move, told = course[standing]
        for at, (deed, cost, fault, after) in enumerate(told):
            longer = (*rounds, (standing, move, deed))
            if fault:
                yield (price + cost, len(longer), (*places, at)), longer, fault
            elif after not in [earlier for earlier, _, _ in longer]:
                stack.append((price + cost, (*places, at), longer, after))


def best_rows(course):
    """For each standing the least key of a broken row from it with at most so many rounds as there are standings."""
    best = {standing: None for standing in course}
    for _ in course:
        later = {}
        for standing, (move, told) in course.items():
            rows = []
            for at, (deed, cost, fault, after) in enumerate(told):
                here = (standing, move, deed)
                if fault:
                    rows.append(((cost, 1, (at,)), (here,), fault))
                elif best[after]:
                    (price, size, places), rounds, end = best[after]
                    rows.append(((cost + price, size + 1, (at, *places)), (here, *rounds), end))
            later[standing] = min(rows, default=None, key=lambda row: row[0])
        best = later
    return best


class RowTest(Case):
    def test_parameters(self):
        self.has_parameters(cheapest_row, "habit", "house")
        self.has_parameters(habit_price, "habit", "house")
        self.has_parameters(habit_rows, "habit", "house")
        self.has_parameters(best_habit, "house", "*habits")
        self.has_parameters(parting, "first", "second", "house")

    def test_by_hand(self):
        row = cheapest_row(habit=LONG, house=DAY)
        self.assertIs(type(row), BrokenRow)
        late = ("mon", "day", "ann", (0, 1))
        self.assertEqual((row.price, row.fault), (3, ("passed", "ben")))
        self.assertEqual(row.rounds, ((FREE, "ann", (("ann",), "ann", "day", "mon")), (late, "", ((), "", "", ""))))
        # Whoever always lends to the first one passes over the other one for nothing.
        row = cheapest_row(FIRST, DAY)
        again = ("mon", "day", "", (0, 1))
        self.assertEqual((row.price, row.fault), (0, ("passed", "ben")))
        self.assertEqual(row.rounds, ((FREE, "ann", (("ann",), "", "day", "mon")), (again, "ann", (("ann",), "", "", ""))))
        self.assertEqual((habit_price(LONG, DAY), habit_price(habit=FIRST, house=DAY)), (3, 0))

    def test_never_broken(self):
        house = DAY.changed(limit=None)
        self.assertIsNone(cheapest_row(LONG, house))
        self.assertIsNone(habit_price(LONG, house))
        self.assertEqual(habit_rows(LONG, house), [(FREE, "ann", None), (("mon", "day", "ann", (0, 0)), "", None)])
        # This habit is broken although the house could keep its promises.
        rule = TurnRule("day", MEMBERS, barred=["ben"], links=[("ann", "ben", 0)])
        self.assertEqual(habit_price(LONG, House([rule], day_book())), 0)
        self.assertIsNone(house_price(House([rule], day_book())))
        # A walk that ends lets nothing be broken.
        book = Book(MEMBERS, [("mon", [("ann", 0), ("ben", 0)], [])], ["mon"])
        self.assertIsNone(habit_price(FIRST, House([TurnRule("day", MEMBERS, limit=1)], book)))

    def test_fewest_rounds_then_first(self):
        # Every deed is free: the start tue breaks a promise in its first round, mon only in its second one.
        pages = [("mon", [], ["tue", "wed"]), ("tue", [("ann", 0), ("ben", 0)], []), ("wed", [("ann", 0), ("ben", 0)], [])]
        house = House([TurnRule("day", MEMBERS, limit=0)], Book(MEMBERS, pages, ["mon", "wed", "tue"]))
        row = cheapest_row(LONG, house)
        self.assertEqual((row.price, len(row.rounds), row.rounds[0][0][0]), (0, 1, "wed"))
        house = house.with_book(Book(MEMBERS, pages, ["mon"]))
        self.assertEqual([standing[0] for standing, _, _ in cheapest_row(LONG, house).rounds], ["mon", "tue"])

    def test_against_all_rows(self):
        chance = random.Random(490)
        seen = set()
        for house, _ in some_games(chance, 200, most=4, members=2, rules=2, pages=2):
            habit = some_habit(chance, house.members)
            course = closed_course(house, habit.told())
            found = min(all_rows(course, first_standings(house)), default=None, key=lambda row: row[0])
            seen.add(self.is_cheapest(cheapest_row(habit, house), found))
        self.assertLessEqual({None, ("held", 1), ("held", 2), ("passed", 1), ("passed", 2)}, seen)

    def test_against_rows_round_by_round(self):
        chance = random.Random(494)
        seen = set()
        for house, _ in some_games(chance, 120, most=30):
            habit = some_habit(chance, house.members)
            course = closed_course(house, habit.told())
            best = best_rows(course)
            rows = [
                ((key[0], key[1], (at, *key[2])), rounds, fault)
                for at, (key, rounds, fault) in enumerate([best[first] or (None,) * 3 for first in first_standings(house)])
                if key
            ]
            found = min(rows, default=None, key=lambda row: row[0])
            seen.add(self.is_cheapest(cheapest_row(habit, house), found))
        self.assertLessEqual({None, ("held", 1), ("held", 2), ("passed", 1), ("passed", 2), ("passed", 3)}, seen)

    def is_cheapest(self, row, found):
        if found is None:
            self.assertIsNone(row)
            return None
        (price, size, _), rounds, fault = found
        self.assertEqual((row.price, row.rounds, row.fault), (price, rounds, fault))
        self.assertEqual(len(row.rounds), size)
        return (fault[0], size)

    def test_kinds_of_values(self):
        row = cheapest_row(LONG, DAY)
        self.assertEqual([type(part) for part in (row.rounds, row.rounds[0], row.fault, row.price)], [tuple, tuple, tuple, int])
        self.assertEqual(self.keeps_arguments(cheapest_row, FIRST, DAY).price, 0)


class RowsTest(Case):
    def test_by_hand(self):
        self.assertEqual(habit_rows(habit=LONG, house=DAY), [
            (FREE, "ann", 3), (("mon", "day", "", (0, 1)), "ben", 3), (("mon", "day", "ann", (0, 1)), "", 0),
            (("mon", "day", "", (1, 0)), "ann", 3), (("mon", "day", "ben", (1, 0)), "", 0),
        ])
        self.is_new_list(lambda: habit_rows(LONG, DAY))

    def test_at_random(self):
        chance = random.Random(491)
        many = 0
        for house, _ in some_games(chance, 150, most=80):
            habit = some_habit(chance, house.members)
            course = closed_course(house, habit.told())
            prices = prices_along(course)
            rows = habit_rows(habit, house)
            self.assertEqual(rows, [(standing, move, prices[standing]) for standing, (move, _) in course.items()])
            self.assertEqual(shown_by_table(house, rows), habit_price(habit, house))
            self.assertEqual(habit_price(habit, house), least([prices[first] for first in first_standings(house)]))
            # No habit does better than the best moves.
            self.assertEqual(greatest([habit_price(habit, house), house_price(house)]), house_price(house))
            many += house_price(house) != habit_price(habit, house)
        self.assertGreater(many, 10)


class BestTest(Case):
    def test_by_hand(self):
        late, dear = Habit.read("wait 1"), Habit.read("dear")
        self.assertIs(best_habit(DAY, FIRST, LONG), LONG)
        self.assertIs(best_habit(DAY, LONG, FIRST), LONG)
        self.assertIs(best_habit(DAY, FIRST), FIRST)
        self.assertIs(best_habit(DAY, dear, FIRST, late), dear)
        again = Habit.read("long")
        self.assertIs(best_habit(DAY, FIRST, again, LONG, late), again)
        self.assertIs(best_habit(DAY.changed(limit=None), FIRST, LONG), FIRST)

    def test_none_is_the_greatest(self):
        # On this page only ann wishes, from whom the key can be handed on to ben, who is barred.
        book = Book(MEMBERS, [("mon", [("ann", 0)], ["mon"])], ["mon"])
        house = House([TurnRule("day", MEMBERS, barred=["ben"], links=[("ann", "ben", 7)])], book)
        never = Habit.read("wait 1")
        self.assertEqual((habit_price(FIRST, house), habit_price(never, house)), (7, None))
        self.assertIs(best_habit(house, FIRST, never), never)
        self.assertIs(best_habit(house, never, FIRST), never)

    def test_at_random(self):
        chance = random.Random(492)
        for house, _ in some_games(chance, 40):
            habits = [some_habit(chance, house.members, 2) for _ in range(chance.randint(1, 5))]
            prices = [habit_price(habit, house) for habit in habits]
            self.assertIs(best_habit(house, *habits), habits[prices.index(greatest(prices))])


def parting_by_hand(first, second, house):
    """The first of the shortest lists of standings, found level by level among all lists without a ring."""
    level = [[standing] for standing in first_standings(house)]
    while level:
        for way in level:
            if move_by_hand(first, house, way[-1]) != move_by_hand(second, house, way[-1]):
                return way
        longer = []
        for way in level:
            for _, _, _, after in outcomes(house, way[-1], move_by_hand(first, house, way[-1])):
                # A way through a ring, or a later way to the same standing, is never the first of the shortest ones.
                if after is not None and after not in way and after not in [other[-1] for other in longer]:
                    longer.append([*way, after])
        level = longer
    return None


class PartingTest(Case):
    def test_by_hand(self):
        again = ("mon", "day", "", (0, 1))
        self.assertEqual(parting(FIRST, LONG, DAY), [FREE, again])
        self.assertEqual(parting(first=FIRST, second=Habit.read("not ann"), house=DAY), [FREE])
        self.assertEqual(parting(FIRST, Habit.read("wait 1"), DAY), [FREE])
        self.assertIsNone(parting(LONG, Habit.read("long, long"), DAY))
        self.assertIsNone(parting(LONG, LONG, DAY))
        self.is_new_list(lambda: parting(FIRST, LONG, DAY))
        # On a page on which nobody wishes no two habits part; of two starts the first one counts.
        pages = [("mon", [], ["tue", "wed"]), ("tue", [("ann", 0), ("ben", 1)], []), ("wed", [("ann", 0), ("ben", 1)], ["wed"])]
        house = House([TurnRule("day", MEMBERS)], Book(MEMBERS, pages, ["mon"]))
        dear = Habit.read("dear")
        start, tue, wed = [(page, "day", "", (0, 0)) for page in ("mon", "tue", "wed")]
        self.assertEqual(parting(FIRST, dear, house), [start, tue])
        for starts, way in ((["mon", "wed", "tue"], [wed]), (["tue", "wed"], [tue])):
            self.assertEqual(parting(FIRST, dear, house.with_book(Book(MEMBERS, pages, starts))), way)

    def test_at_random(self):
        chance = random.Random(493)
        sizes = set()
        for house, _ in some_games(chance, 400, most=20, fewest=5):
            first, second = some_habit(chance, house.members, 2), some_habit(chance, house.members, 2)
            way = parting(first, second, house)
            self.assertEqual(way, parting_by_hand(first.told(), second.told(), house))
            self.assertEqual(way, parting(second, first, house))
            sizes.add(way and len(way))
        self.assertLessEqual({None, 1, 2, 3}, sizes)


def long_house(size, *starts):
    """While those with the most passes get the key, 399 or 400 standings come behind the page p.

    On the page s, where the walk ends, two members wish, and the second one bids more.
    """
    bids, home = {399: ("abd ac cd", ["p", "q"]), 400: ("acd bcd cd", ["p", "r"])}[size]
    followers = {399: ["pq", "qpr", "qp"], 400: ["prq", "pr", "rp"]}[size]
    pages = [
        (page, [(member, 0) for member in wishers], list(nexts))
        for page, wishers, nexts in zip("pqr", bids.split(), followers)
    ]
    pages.append(("s", [("a", 0), ("b", 1)], []))
    return House([TurnRule("day", FOUR, limit=3)], Book(FOUR, pages, starts, home=[*home, "s"]))


class TooLargeTest(Case):
    def test_400_and_401(self):
        habit = Habit.read("long")
        for size, *starts in ((399, "p"), (400, "p"), (399, "p", "s"), (399, "s", "p")):
            house = long_house(size, *starts)
            rows = habit_rows(habit, house)
            self.assertEqual(len(rows), size + len(starts) - 1)
            self.assertEqual([row[0] for row in rows], list(closed_course(house, "long")))
            self.assertEqual(shown_by_table(house, rows), habit_price(habit, house))
            self.assertEqual(cheapest_row(habit, house).price, habit_price(habit, house))
            self.assertIs(best_habit(house, habit), habit)
            self.assertIsNone(parting(habit, Habit.read("long, not zoe"), house))
        for starts in (["p", "s"], ["s", "p"]):
            house = long_house(400, *starts)
            self.assertEqual(len(closed_course(house, "long")), 401)
            for call in (cheapest_row, habit_price, habit_rows):
                self.fails(TooLarge, {}, call, habit, house)
            self.fails(TooLarge, {}, best_habit, house, habit)
            self.fails(TooLarge, {}, best_habit, house, Habit.read("long, safe"), habit)
            self.fails(TooLarge, {}, parting, habit, Habit.read("long, not zoe"), house)

    def test_parting_looks_at_all_that_can_come(self):
        habit, dear = Habit.read("long"), Habit.read("long, dear")
        at = ("s", "day", "", (0, 0, 0, 0))
        self.assertEqual(parting(habit, dear, long_house(399, "s", "p")), [at])
        self.assertEqual(parting(habit, dear, long_house(399, "p", "s")), [at])
        self.assertEqual(parting(habit, dear, long_house(400, "s")), [at])
        for starts in (["p", "s"], ["s", "p"]):
            self.fails(TooLarge, {}, parting, habit, dear, long_house(400, *starts))

    def test_only_what_comes_while_the_habit_lends_counts(self):
        house = long_house(400, "p")
        self.fails(TooLarge, {}, house_price, house)
        # Both habits lend to somebody else at once, so nothing can come behind the first standing.
        self.assertEqual(len(parting(Habit.read("not a"), Habit.read("not c"), house)), 1)
        more = large_house("p", "s")
        self.fails(TooLarge, {}, house_price, more)
        self.assertLess(len(habit_rows(Habit.read("long"), more)), 400)


if __name__ == "__main__":
    unittest.main()
