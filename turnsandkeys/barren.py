"""Barren rows: told rows along which no moves keep all promises."""

from turnsandkeys.errors import TooLarge
from turnsandkeys.names import check_range
from turnsandkeys.told import ToldRounds

MOST_KNOTS = 300


class Knots:
    """Knots in the order in which they are found, each one once, with the row that leads to it first."""

    def __init__(self):
        self.sequence = []
        self._seen = {}

    def note(self, page, rule, pairs, row):
        """Put a knot behind the others if it is new."""
        knot = (page, rule, tuple(pairs))
        if knot not in self._seen:
            self._seen[knot] = True
            self.sequence.append((page, rule, pairs, row))


def barren_row(house, *, most=4):
    """The first of the shortest barren rows with at most so many rounds, None if there is none."""
    check_range(most, 1, 8)
    rounds = ToldRounds(house)
    knots = Knots()
    for start in house.book.starts:
        knots.note(start, house.names[0], [rounds.beginning()], [])
    at = 0
    while at < len(knots.sequence):
        if at == MOST_KNOTS:
            raise TooLarge()
        page, rule, pairs, row = knots.sequence[at]
        for late in (False, True):
            longer = [*row, (page, rule, late)]
            afters = _pairs_after(rounds, page, rule, late, pairs)
            if not afters:
                return longer
            if len(longer) < most:
                _note_followers(house, knots, page, afters, longer)
        at += 1
    return None


def _pairs_after(rounds, page, rule, late, pairs):
    """The pairs to which some moves lead without a fault, in ascending order."""
    afters = {after: True for pair in pairs for _, after in rounds.ways_of(page, rule, late, pair)}
    return sorted(list(afters))


def _note_followers(house, knots, page, pairs, row):
    """Note the knots of the next round."""
    for follower in house.book.page(page).followers:
        for rule in house.rules:
            free = [pair for pair in pairs if pair[0] not in rule.barred]
            knots.note(follower, rule.name, free, row)
