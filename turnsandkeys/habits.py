"""Habits: which move a house makes at each standing."""

from turnsandkeys.errors import BadStep
from turnsandkeys.names import check_size, is_name
from turnsandkeys.standings import moves
from turnsandkeys.steps import Dearest, Longest, Over, Safest, Wait, Without

MOST_STEPS = 4


class Habit:
    """A row of steps that tells to whom the house lends."""

    def __init__(self, *steps):
        check_size(len(steps), 0, MOST_STEPS)
        self.steps = tuple(steps)

    @classmethod
    def read(cls, text):
        """The habit with this text."""
        parts = text.split(", ") if text != "" else []
        steps = [_read_step(place, part) for place, part in enumerate(parts[:MOST_STEPS])]
        if len(parts) > MOST_STEPS:
            raise BadStep(MOST_STEPS)
        return cls(*steps)

    def told(self):
        """The texts of the steps."""
        return ", ".join([step.told() for step in self.steps])

    def __call__(self, house, standing):
        left = [move for move in moves(house, standing) if move != ""]
        for step in self.steps:
            if not left:
                return ""
            left = step.kept(house, standing, left)
        return left[0] if left else ""


def _read_step(place, part):
    """The step with this text."""
    kind, _, word = part.partition(" ")
    if part == "long":
        return Longest()
    if part == "dear":
        return Dearest()
    if part == "safe":
        return Safest()
    if kind == "not" and is_name(word):
        return Without(word)
    if kind == "over" and word in ("0", "1", "2", "3"):
        return Over(int(word))
    if kind == "wait" and word in ("0", "1", "2", "3"):
        return Wait(int(word))
    raise BadStep(place)
