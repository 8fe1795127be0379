"""A desk as the document says it, which keeps whole copies of what is so, and random steps at desks."""

import copy

from ballots import all_ballots
from making import some_parts
from rounds import least, plus
from turnsandkeys import errors
from turnsandkeys.deeds import outcomes
from turnsandkeys.games import Game
from turnsandkeys.houses import House
from turnsandkeys.pages import Book
from turnsandkeys.rolls import Roll
from turnsandkeys.rules import TurnRule
from turnsandkeys.standings import first_standings, is_standing, moves

MEMBERS = ["ann", "ben"]


def small_house():
    """A house whose walk can end, with two rules."""
    pages = [
        ("mon", [("ann", 0), ("ben", 2)], ["mon", "tue", "end"]), ("tue", [("ben", 1)], ["mon"]), ("end", [("ann", 0)], []),
    ]
    day = TurnRule("day", MEMBERS, limit=2, deposit=3, fee=2)
    hard = TurnRule("hard", MEMBERS, limit=1, deposit=1, barred=["ann"], links=[("ben", "ann", 5)])
    return House([day, hard], Book(MEMBERS, pages, ["mon", "tue"]), [(("day",), 2), (("hard", "day"), 1)])


def seen(desk):
    """Whatever a desk shows."""
    return (
        desk.house_now, desk.standing_now, desk.move_now, desk.fault_now, desk.spent, desk.left, desk.undoable, desk.memory,
        list(desk.log()),
    )


def all_seen(desk):
    """Whatever a desk shows now, and would show if all were taken back, or done again."""
    found = [seen(desk)]
    with desk.trial():
        while desk.undoable:
            desk.undo()
            found.append(seen(desk))
    with desk.trial():
        for _ in range(200):
            try:
                desk.redo()
            except errors.NothingToRedo:
                break
            found.append(seen(desk))
    return found


def in_pieces(rows):
    """Rows with the same sums, none of them above the bound of a count."""
    return [
        (ballot, min(10 ** 9, many - past)) for ballot, many in rows for past in range(0, max(many, 1), 10 ** 9)
    ]


class Model:
    """The same desk, kept in the simplest way."""

    def __init__(self, house, start=None, memory=20):
        standing = first_standings(house)[0 if start is None else house.book.starts.index(start)]
        self.now = {"house": house, "standing": standing, "move": None, "fault": None, "log": []}
        self.past, self.future, self.bound = [], [], memory

    def seen(self):
        now = self.now
        left = None if now["standing"] is None else Game(now["house"], at=now["standing"]).price_of(now["standing"])
        return (
            now["house"], now["standing"], now["move"], now["fault"], sum(row[3] for row in now["log"]),
            0 if now["fault"] else left, len(self.past), self.bound, now["log"],
        )

    def cut(self):
        while len(self.past) > self.bound:
            del self.past[0]

    def needs_no_move(self, now):
        if now["standing"] is None:
            raise errors.DeskOver()
        if now["move"] is not None:
            raise errors.MoveWaits()

    def needs_move(self, now):
        if now["standing"] is None:
            raise errors.DeskOver()
        if now["move"] is None:
            raise errors.NoMoveWaits()

    def step(self, *deeds):
        """Do some steps as one."""
        now = copy.copy(self.now)
        answers = []
        for kind, *told in deeds:
            now["log"] = list(now["log"])
            answers.append(getattr(self, kind)(now, *told))
        self.past.append(self.now)
        self.now, self.future = now, []
        self.cut()
        return tuple(answers)

    def lend(self, now, move):
        self.needs_no_move(now)
        if move not in moves(now["house"], now["standing"]):
            raise errors.NoMove(move)
        now["move"] = move

    def do(self, now, deed):
        self.needs_move(now)
        found = [row for row in outcomes(now["house"], now["standing"], now["move"]) if row[0] == deed]
        if not found:
            raise errors.NoDeed(deed)
        [(_, price, fault, after)] = found
        now["log"].append((now["standing"], now["move"], deed, price))
        now.update(standing=after, fault=fault, move=None)
        return price

    def finish(self, now):
        self.needs_move(now)
        if now["house"].book.page(now["standing"][0]).followers:
            raise errors.PagesFollow()
        now["log"].append((now["standing"], now["move"], None, 0))
        now.update(standing=None, move=None)

    def put(self, now, ballot, many=1):
        self.needs_no_move(now)
        house = now["house"]
        Roll(house.names, [(ballot, many)])
        rows = [*house.roll, (ballot, many)]
        now["house"] = House(house.rules, house.book, in_pieces(rows))
        return sum(count for _, count in rows)

    def amend(self, now, rule, parts):
        self.needs_no_move(now)
        house = now["house"]
        house = house.with_rule(house.rule(rule).changed(**parts))
        if not is_standing(house, now["standing"]):
            raise errors.BadStanding(now["standing"])
        Game(house, at=now["standing"])
        now["house"] = house

    def undo(self):
        if not self.past:
            raise errors.NothingToUndo()
        self.future.append(self.now)
        self.now = self.past.pop()

    def redo(self):
        if not self.future:
            raise errors.NothingToRedo()
        self.past.append(self.now)
        self.now = self.future.pop()
        self.cut()

    def remember(self, number):
        if not 0 <= number <= 100:
            raise errors.BadNumber(number)
        self.bound = number
        self.cut()

    def advice(self):
        self.needs_no_move(self.now)
        house, standing = self.now["house"], self.now["standing"]
        game = Game(house, at=standing)
        for move in moves(house, standing):
            if game.worth_of(standing, move) == game.price_of(standing):
                return move

    def threat(self):
        self.needs_move(self.now)
        house, standing = self.now["house"], self.now["standing"]
        game = Game(house, at=standing)
        pairs = []
        for deed, price, fault, after in outcomes(house, standing, self.now["move"]):
            pairs.append((deed, price if fault else plus(price, game.price_of(after))))
        best = least([total for _, total in pairs])
        return None if best is None else [pair for pair in pairs if pair[1] == best][0]


def some_deed(chance, now):
    """A step that is mostly possible."""
    house, standing = now["house"], now["standing"]
    if chance.random() < 0.1 or standing is None:
        return chance.choice([
            ("lend", "ann"), ("lend", ""), ("lend", "x"), ("finish",), ("do", ((), "", "day", "mon")), ("put", ("x",)),
            ("put", ()), ("do", ((), "", "", "")),
        ])
    if now["move"] is None:
        if chance.random() < 0.25:
            ballot = chance.choice(all_ballots(house.names))
            return ("put", ballot) if chance.random() < 0.5 else ("put", ballot, chance.choice([0, 1, 2, 5, 10 ** 9, 10 ** 9 + 1, -1]))
        return ("lend", chance.choice(moves(house, standing)))
    found = outcomes(house, standing, now["move"])
    if not found or chance.random() < 0.1:
        return ("finish",)
    quiet = [row for row in found if row[2] is None]
    return ("do", chance.choice(quiet if quiet and chance.random() < 0.8 else found)[0])


def some_deeds(chance, model, most=3):
    """A row of steps, each of which mostly fits behind the ones before it."""
    trying = copy.copy(model)
    trying.past, trying.future = list(model.past), list(model.future)
    deeds = []
    for _ in range(chance.randint(0, most)):
        deeds.append(some_deed(chance, trying.now))
        try:
            trying.step(deeds[-1])
        except errors.HouseError:
            break
    return deeds


def some_change(chance, now):
    """A rule and parts with which it could be amended."""
    house = now["house"]
    parts = some_parts(chance, list(house.members))
    kept = chance.sample(list(parts), chance.randint(0, 2))
    return chance.choice([*house.names, "x"]) if chance.random() < 0.2 else house.names[0], {name: parts[name] for name in kept}
