"""The desk: following a house live, with steps that can be taken back."""

from turnsandkeys.deeds import outcome, outcomes
from turnsandkeys.errors import (
    DeskOver, MoveWaits, NoMove, NoMoveWaits, NothingToRedo, NothingToUndo, PagesFollow, UnknownPage,
)
from turnsandkeys.games import Game
from turnsandkeys.houses import House
from turnsandkeys.names import check_range
from turnsandkeys.prices import plus
from turnsandkeys.rolls import Roll, SumRows
from turnsandkeys.standings import first_standings, moves

MOST_MEMORY = 100


class Scene:
    """What is so at a desk at some moment. A scene never changes; each step makes another one.

    The standing is None if the desk is over. The game has the standing, and is None if it has not been
    reckoned since the house has changed. The rounds are those that are done, as the log tells them.
    """

    def __init__(self, house, game, standing, move, fault, rounds):
        self.house = house
        self.game = game
        self.standing = standing
        self.move = move
        self.fault = fault
        self.rounds = rounds
        self.coins = sum([price for _, _, _, price in rounds])


class History:
    """What a desk remembers: the present scene, those before it, those that can come back, and how many it keeps."""

    def __init__(self, scene, past, future, bound):
        self.scene = scene
        # What the present standing costs is reckoned here, as properties only read.
        self.worth = _worth(scene)
        self.past = tuple(past)[max(0, len(past) - bound):]
        self.future = tuple(future)
        self.bound = bound


class Desk:
    """A house that is followed live."""

    def __init__(self, house, *, start=None, memory=20):
        if start is not None and start not in house.book.starts:
            raise UnknownPage(start)
        check_range(memory, 0, MOST_MEMORY)
        standing = first_standings(house)[0 if start is None else house.book.starts.index(start)]
        self._history = History(Scene(house, Game(house, at=standing), standing, None, None, ()), (), (), memory)

    @property
    def house_now(self):
        """The house as it is now."""
        return self._history.scene.house

    @property
    def standing_now(self):
        """The present standing, None if the desk is over."""
        return self._history.scene.standing

    @property
    def move_now(self):
        """The move that waits for its deed, None if none does."""
        return self._history.scene.move

    @property
    def fault_now(self):
        """The fault of the last deed, or None."""
        return self._history.scene.fault

    @property
    def spent(self):
        """The sum of the prices of all deeds done."""
        return self._history.scene.coins

    @property
    def left(self):
        """The price of the present standing."""
        return self._history.worth

    @property
    def undoable(self):
        """The number of steps that can be taken back."""
        return len(self._history.past)

    @property
    def memory(self):
        """The greatest number of steps that can be taken back."""
        return self._history.bound

    @memory.setter
    def memory(self, value):
        self.remember(value)

    def lend(self, move):
        """Make a move."""
        self.step_to(_lend(self.present(), move)[0])

    def do(self, deed):
        """Do a deed after the move that waits; returns its price."""
        scene, price = _do(self.present(), deed)
        self.step_to(scene)
        return price

    def finish(self):
        """End the walk without a deed after the move that waits."""
        self.step_to(_finish(self.present())[0])

    def amend(self, rule, **parts):
        """Change some parts of a rule for good."""
        scene = self.present()
        _check_no_move(scene)
        old = scene.house.rule(rule)
        house = scene.house.with_rule(old.changed(**parts))
        # The game refuses a standing that the changed house does not have, and too many standings.
        game = Game(house, at=scene.standing)
        self.step_to(Scene(house, game, scene.standing, None, None, scene.rounds))

    def put(self, ballot, many=1):
        """Add ballots to the roll for good; returns its total."""
        scene, total = _put(self.present(), ballot, many)
        self.step_to(scene)
        return total

    def several(self, *deeds):
        """Do several steps as one step; returns the tuple of what they return."""
        scene, answers = _several(self.present(), deeds)
        self.step_to(scene)
        return answers

    def undo(self):
        """Take back the last step."""
        now = self._history
        if not now.past:
            raise NothingToUndo()
        self._history = History(now.past[-1], now.past[:-1], (now.scene, *now.future), now.bound)

    def redo(self):
        """Do again the step that was taken back last."""
        now = self._history
        if not now.future:
            raise NothingToRedo()
        self._history = History(now.future[0], (*now.past, now.scene), now.future[1:], now.bound)

    def remember(self, n):
        """Remember so many steps from now on."""
        check_range(n, 0, MOST_MEMORY)
        now = self._history
        self._history = History(now.scene, now.past, now.future, n)

    def advice(self):
        """The first move with the greatest worth."""
        scene = self.present()
        _check_no_move(scene)
        return scene.game.best_move(scene.standing)

    def threat(self):
        """The deed that brings the few nearest to a breach, and what they need with it; None if nothing does."""
        scene = self.present()
        _check_move(scene)
        best = None
        for deed, price, fault, after in outcomes(scene.house, scene.standing, scene.move):
            total = price if fault is not None else plus(price, scene.game.price_of(after))
            if total is not None and (best is None or total < best[1]):
                best = (deed, total)
        return best

    def log(self):
        """A tuple of standing, move, deed and price for each round that is done."""
        for told in self._history.scene.rounds:
            yield told

    def trial(self):
        """A context manager behind which the desk is as it was before."""
        return Trial(self)

    def tried(self, *deeds):
        """What the desk would be like after these steps."""
        scene, _ = _several(self.present(), deeds)
        return (scene.standing, scene.move, scene.fault, scene.coins, _worth(_reckoned(scene)))

    def present(self):
        """The present scene."""
        return self._history.scene

    def step_to(self, scene):
        """Make this scene the present one, by one step."""
        now = self._history
        self._history = History(_reckoned(scene), (*now.past, now.scene), (), now.bound)


class Trial:
    """A block of a desk that leaves it as it was."""

    def __init__(self, desk):
        self._desk = desk
        self._kept = None

    def __enter__(self):
        self._kept = self._desk._history
        return self._desk

    def __exit__(self, kind, value, trace):
        self._desk._history = self._kept


def _worth(scene):
    """The price of the standing of the scene: 0 behind a fault, None behind the end of the walk."""
    if scene.fault is not None:
        return 0
    return None if scene.standing is None else scene.game.price_of(scene.standing)


def _reckoned(scene):
    """The scene with its game, if it needs one and does not have it."""
    if scene.game is not None or scene.standing is None:
        return scene
    game = Game(scene.house, at=scene.standing)
    return Scene(scene.house, game, scene.standing, scene.move, scene.fault, scene.rounds)


def _check_no_move(scene):
    if scene.standing is None:
        raise DeskOver()
    if scene.move is not None:
        raise MoveWaits()


def _check_move(scene):
    if scene.standing is None:
        raise DeskOver()
    if scene.move is None:
        raise NoMoveWaits()


def _several(scene, deeds):
    """The scene after some steps, whose game may have to be reckoned, and the tuple of what they return."""
    answers = []
    for kind, *told in deeds:
        action = ACTIONS[kind]
        scene, answer = action(scene, *told)
        answers.append(answer)
    return scene, tuple(answers)


def _lend(scene, move):
    _check_no_move(scene)
    if move not in moves(scene.house, scene.standing):
        raise NoMove(move)
    return Scene(scene.house, scene.game, scene.standing, move, None, scene.rounds), None


def _do(scene, deed):
    _check_move(scene)
    price, fault, after = outcome(scene.house, scene.standing, scene.move, deed)
    rounds = (*scene.rounds, (scene.standing, scene.move, deed, price))
    return Scene(scene.house, scene.game, after, None, fault, rounds), price


def _finish(scene):
    _check_move(scene)
    if scene.house.book.page(scene.standing[0]).followers:
        raise PagesFollow()
    rounds = (*scene.rounds, (scene.standing, scene.move, None, 0))
    return Scene(scene.house, scene.game, None, None, None, rounds), None


def _put(scene, ballot, many=1):
    _check_no_move(scene)
    roll = scene.house.roll + Roll.of(scene.house.names, ballot, many=many)
    # The counts of the roll can be sums, which can exceed the bound of a count.
    house = House(scene.house.rules, scene.house.book, SumRows(list(roll)))
    return Scene(house, None, scene.standing, None, None, scene.rounds), roll.total


ACTIONS = {"lend": _lend, "do": _do, "finish": _finish, "put": _put}
