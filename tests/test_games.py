"""The price of a house [39 to 41]."""

import random
import unittest

from helpers import Case
from making import day_book
from rounds import (
    greatest, least, next_prices, prices_by_hand, rounds_by_hand, some_games, standings_by_hand, table_of, worth_by_hand,
)
from turnsandkeys.errors import BadNumber, BadStanding, NoMove, TooLarge
from turnsandkeys.games import Game, house_price, price_within
from turnsandkeys.houses import House
from turnsandkeys.pages import Book
from turnsandkeys.rules import TurnRule
from turnsandkeys.standings import first_standings, moves

DAY = House([TurnRule("day", ["ann", "ben"], limit=1, deposit=3)], day_book())
FIRST = ("mon", "day", "", (0, 0))
FOUR = ["a", "b", "c", "d"]
LARGE_PAGES = [
    ("p", [("a", 0), ("d", 0)], ["p", "q"]),
    ("q", [("a", 0), ("b", 0), ("c", 0), ("d", 0)], ["p"]),
]


def large_house(*starts):
    """A house with 400 standings, and one more for each start but the page p."""
    others = [(start, [], ["p"]) for start in starts if start != "p"]
    book = Book(FOUR, [*LARGE_PAGES, *others], starts, home=["p", "q"])
    return House([TurnRule("day", FOUR, limit=3)], book)


class GameTest(Case):
    def test_parameters(self):
        self.has_parameters(Game, "house", "*", "at=None")
        self.has_parameters(Game.price_of, "self", "standing")
        self.has_parameters(Game.worth_of, "self", "standing", "move")
        self.has_parameters(Game.best_move, "self", "standing")
        self.has_parameters(Game.rounds_of, "self", "standing")
        self.has_parameters(house_price, "house")
        self.has_parameters(price_within, "house", "rounds", "*", "at=None")
        game = Game(house=DAY, at=FIRST)
        found = (
            game.price_of(standing=FIRST), game.worth_of(standing=FIRST, move="ann"), game.best_move(standing=FIRST),
            game.rounds_of(standing=FIRST),
        )
        self.assertEqual(found, (3, 3, "ann", 2))
        self.assertEqual((house_price(house=DAY), price_within(house=DAY, rounds=2, at=FIRST)), (3, 3))

    def test_by_hand(self):
        game = Game(DAY)
        self.assertEqual(list(game), [
            FIRST, ("mon", "day", "", (0, 1)), ("mon", "day", "ann", (0, 1)), ("mon", "day", "", (1, 0)),
            ("mon", "day", "ben", (1, 0)), ("mon", "day", "", (1, 1)),
        ])
        self.assertEqual(len(game), 6)
        self.assertEqual([game.price_of(standing) for standing in game], [3, 3, 0, 3, 0, 0])
        self.assertEqual([game.rounds_of(standing) for standing in game], [2, 2, 1, 2, 1, 1])
        self.assertEqual([game.worth_of(FIRST, move) for move in ("ann", "ben", "")], [3, 3, 0])
        self.assertEqual([game.best_move(standing) for standing in game], ["ann", "ben", "", "ann", "", "ann"])

    def test_in(self):
        game = Game(DAY)
        self.assertIs(FIRST in game, True)
        for standing in (("mon", "day", "ann", (0, 0)), ("tue", "day", "", (0, 0)), ("mon", "day", "", (0, 2)), ("mon", "day", "", ())):
            self.assertIs(standing in game, False)
        self.assertEqual(len([pair for pair in zip(game, game)]), 6)

    def test_free_ring_is_no_breach(self):
        # Lending, handing on and voting cost nothing, but nothing ever breaks.
        rule = TurnRule("day", ["ann", "ben"], links=[("ann", "ben", 0), ("ben", "ann", 0)])
        game = Game(House([rule], day_book()))
        for standing in game:
            self.assertIsNone(game.price_of(standing))
            self.assertIsNone(game.rounds_of(standing))
            self.assertEqual(game.best_move(standing), moves(House([rule], day_book()), standing)[0])
        self.assertIsNone(house_price(House([rule], day_book())))
        self.assertIsNone(price_within(House([rule], day_book()), 500))

    def test_free_breach(self):
        house = House([TurnRule("day", ["ann", "ben"], limit=0)], day_book())
        self.assertEqual(house_price(house), 0)
        self.assertEqual(Game(house).rounds_of(FIRST), 1)
        self.assertEqual([price_within(house, rounds) for rounds in range(3)], [None, 0, 0])

    def test_against_rounds_by_hand(self):
        chance = random.Random(390)
        seen = set()
        for house, game in some_games(chance, 60):
            standings = standings_by_hand(house, first_standings(house))
            self.assertEqual(list(game), standings)
            self.assertEqual(len(game), len(standings))
            table = table_of(house, standings)
            prices = prices_by_hand(table)
            rounds = rounds_by_hand(table, prices)
            for standing in standings:
                price = game.price_of(standing)
                self.assertEqual((price, game.rounds_of(standing)), (prices[standing], rounds[standing]))
                worths = [worth_by_hand(told, prices) for told in table[standing].values()]
                self.assertEqual([game.worth_of(standing, move) for move in table[standing]], worths)
                self.assertEqual(price, greatest(worths))
                self.assertEqual(game.best_move(standing), list(table[standing])[worths.index(price)])
                self.assertIs(standing in game, True)
                seen.add((price is None, rounds[standing]))
            self.assertEqual(house_price(house), least([prices[first] for first in first_standings(house)]))
        self.assertIn((True, None), seen)
        self.assertGreater(max(number or 0 for _, number in seen), 3)

    def test_at(self):
        chance = random.Random(391)
        for house, game in some_games(chance, 25):
            for standing in chance.sample(list(game), min(4, len(game))):
                part = Game(house, at=standing)
                self.assertEqual(list(part), standings_by_hand(house, [standing]))
                self.assertEqual(
                    [(part.price_of(other), part.rounds_of(other)) for other in part],
                    [(game.price_of(other), game.rounds_of(other)) for other in part],
                )

    def test_at_that_cannot_come(self):
        house = House([TurnRule("day", ["ann", "ben"], limit=3, deposit=3)], day_book())
        late = ("mon", "day", "ann", (3, 3))
        self.assertNotIn(late, Game(house))
        game = Game(house, at=late)
        self.assertEqual((list(game)[0], game.price_of(late), game.rounds_of(late), len(game)), (late, 0, 1, 1))
        self.fails(BadStanding, {"standing": FIRST}, game.price_of, FIRST)

    def test_wrong_standings(self):
        game = Game(DAY)
        for standing in (("mon", "day", "ann", (0, 0)), ("tue", "day", "", (0, 0)), ("mon", "day", "", (0, 2))):
            self.fails(BadStanding, {"standing": standing}, game.price_of, standing)
            self.fails(BadStanding, {"standing": standing}, game.worth_of, standing, "x")
            self.fails(BadStanding, {"standing": standing}, game.best_move, standing)
            self.fails(BadStanding, {"standing": standing}, game.rounds_of, standing)
        for standing in (("tue", "day", "", (0, 0)), ("mon", "x", "", (0, 0)), ("mon", "day", "", (0, 2))):
            self.fails(BadStanding, {"standing": standing}, Game, DAY, at=standing)
        for move in ("x", "mon", "day"):
            self.fails(NoMove, {"move": move}, game.worth_of, FIRST, move)
        self.fails(NoMove, {"move": "ann"}, game.worth_of, ("mon", "day", "ann", (0, 1)), "ann")
        self.assertEqual(list(game), list(Game(DAY)))


class LargeTest(Case):
    def test_400_and_401(self):
        house = large_house("p")
        game = Game(house)
        self.assertEqual(len(game), 400)
        self.assertEqual(len(standings_by_hand(house, first_standings(house))), 400)
        self.assertEqual(house_price(house), game.price_of(first_standings(house)[0]))
        self.assertEqual(price_within(house, 400), house_price(house))
        more = large_house("p", "s")
        self.assertEqual(len(standings_by_hand(more, first_standings(more))), 401)
        for call in (Game, house_price):
            self.fails(TooLarge, {}, call, more)
        self.fails(TooLarge, {}, price_within, more, 0)
        self.fails(TooLarge, {}, Game, more, at=("s", "day", "", (0, 0, 0, 0)))
        self.assertEqual(len(Game(more, at=("p", "day", "", (0, 0, 0, 0)))), 400)
        self.fails(TooLarge, {}, price_within, more, 3, at=("s", "day", "", (0, 0, 0, 0)))
        self.assertEqual(price_within(more, 400, at=("p", "day", "", (0, 0, 0, 0))), house_price(house))

    def test_errors_in_order(self):
        more = large_house("p", "s")
        wrong = ("x", "day", "", (0, 0, 0, 0))
        self.fails(BadStanding, {"standing": wrong}, Game, more, at=wrong)
        self.fails(BadStanding, {"standing": wrong}, price_within, more, 0, at=wrong)
        for rounds in (-1, 501, 10 ** 59):
            self.fails(BadNumber, {"number": rounds}, price_within, more, rounds, at=wrong)


class WithinTest(Case):
    def test_by_hand(self):
        self.assertEqual([price_within(DAY, rounds) for rounds in (0, 1, 2, 3, 500)], [None, None, 3, 3, 3])

    def test_more_rounds_cost_less(self):
        # Keeping late costs once 9, or a vote of 1 and then 2: the second way takes a round more.
        dear = TurnRule("day", ["ann", "ben"], limit=1, deposit=9)
        cheap = TurnRule("sale", ["ann", "ben"], limit=1, deposit=2)
        house = House([dear, cheap], day_book())
        self.assertEqual([price_within(house, rounds) for rounds in range(5)], [None, None, 9, 3, 3])

    def test_against_rounds_by_hand(self):
        chance = random.Random(410)
        for house, game in some_games(chance, 40):
            table = table_of(house, list(game))
            prices = {standing: None for standing in table}
            firsts = first_standings(house)
            start = chance.choice(list(game))
            for rounds in range(7):
                self.assertEqual(price_within(house, rounds), least([prices[first] for first in firsts]))
                self.assertEqual(price_within(house, rounds, at=start), prices[start])
                prices = next_prices(table, prices)
            for rounds in (len(game), 500):
                self.assertEqual(price_within(house, rounds), house_price(house))
                self.assertEqual(price_within(house, rounds, at=start), game.price_of(start))

    def test_never_greater_with_more_rounds(self):
        chance = random.Random(411)
        for house, _ in some_games(chance, 20):
            prices = [price_within(house, rounds) for rounds in range(12)]
            self.assertIsNone(prices[0])
            for fewer, more in zip(prices, prices[1:]):
                self.assertEqual(least([fewer, more]), more)

    def test_wrong_rounds(self):
        for rounds in (-1, 501, 10 ** 59, -(10 ** 59)):
            self.fails(BadNumber, {"number": rounds}, price_within, DAY, rounds)
            self.fails(BadNumber, {"number": rounds}, price_within, DAY, rounds, at=("x", "", "", ()))
        wrong = ("mon", "day", "x", (0, 0))
        self.fails(BadStanding, {"standing": wrong}, price_within, DAY, 0, at=wrong)


if __name__ == "__main__":
    unittest.main()
