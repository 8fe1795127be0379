"""Papers: tables which show that coins are not enough, and plans which show that they are."""

from turnsandkeys.deeds import outcomes
from turnsandkeys.errors import BadNumber, BadStanding, NoMove
from turnsandkeys.games import Game
from turnsandkeys.judging import falls
from turnsandkeys.prices import least
from turnsandkeys.standings import Found, first_standings, moves


class Paper:
    """What both papers have: a house, its price, and a row for each standing."""

    def __init__(self, house, price, rows):
        self.house = house
        self.price = price
        self._rows = {row[0]: row for row in rows}

    def __len__(self):
        return len(self._rows)

    def __iter__(self):
        return iter(self._rows.keys())

    def __contains__(self, x):
        return x in self._rows

    def _row(self, standing):
        if standing not in self._rows:
            raise BadStanding(standing)
        return self._rows[standing]


class Table(Paper):
    """A move for each standing, with which fewer coins than the price break no promise."""

    def __call__(self, standing):
        return self._row(standing)[1]

    def rows(self):
        """The triples of standing, move and price."""
        return list(self._rows.values())

    def told(self):
        """What the table shows, in words."""
        if self.price is None:
            return f"{len(self)} standings, never broken"
        return f"{len(self)} standings, broken for {self.price} at least"


class Plan(Paper):
    """A deed for each move at each standing, with which the price is enough to break a promise."""

    def __init__(self, house, price, rows):
        super().__init__(house, price, rows)
        self.first = rows[0][0]

    def __call__(self, standing, move):
        answers = dict(self._row(standing)[3])
        if move not in answers:
            raise NoMove(move)
        return answers[move]

    def rows(self):
        """The tuples of standing, price, rounds and the pairs of a move and a deed."""
        return list(self._rows.values())

    def told(self):
        """What the plan shows, in words."""
        rounds = self._rows[self.first][2]
        return f"{len(self)} standings, broken for {self.price} in {rounds} rounds at most"


def decide(house, purse):
    """A Table if the few cannot surely break a promise with so many coins, otherwise a Plan."""
    if purse < 0:
        raise BadNumber(purse)
    game = Game(house)
    firsts = first_standings(house)
    price = least([game.price_of(standing) for standing in firsts])
    if price is None or price > purse:
        return Table(house, price, _table_rows(game, firsts))
    cheapest = [standing for standing in firsts if game.price_of(standing) == price]
    return Plan(house, price, _plan_rows(house, game, cheapest[0]))


def _table_rows(game, firsts):
    found = Found(firsts)
    rows = []
    while len(rows) < len(found.sequence):
        standing = found.sequence[len(rows)]
        move = game.best_move(standing)
        rows.append((standing, move, game.price_of(standing)))
        found.note(game.afters_of(standing, move))
    return rows


def _plan_rows(house, game, first):
    marks = {
        standing: (game.price_of(standing), game.rounds_of(standing))
        for standing in game if game.price_of(standing) is not None
    }
    found = Found([first])
    rows = []
    while len(rows) < len(found.sequence):
        at = found.sequence[len(rows)]
        answers = [_answer(house, marks, at, move) for move in moves(house, at)]
        price, rounds = marks[at]
        rows.append((at, price, rounds, tuple([(move, deed) for move, deed, _ in answers])))
        found.note([after for _, _, after in answers if after is not None])
    return rows


def _answer(house, marks, standing, move):
    """The triple of the move, the first deed that falls, and the standing after it."""
    answers = [
        (move, deed, after)
        for deed, price, fault, after in outcomes(house, standing, move)
        if falls(marks, standing, price, fault, after)
    ]
    return answers[0]
