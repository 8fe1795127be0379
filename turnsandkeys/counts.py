"""Counting a roll in rounds."""


class Count:
    """How a roll is counted: who leaves, who wins, and every round."""

    def __init__(self, order, winner, table):
        self.order = tuple(order)
        self.winner = winner
        self.table = tuple(table)


def top(ballot, remaining):
    """The first option of the ballot that remains, None if none does."""
    for option in ballot:
        if option in remaining:
            return option
    return None


def votes_for(roll, remaining):
    """The tuple of the votes of the remaining options."""
    tops = [(top(ballot, remaining), many) for ballot, many in roll]
    return tuple([sum([many for first, many in tops if first == option]) for option in remaining])


def count(roll):
    """Count a roll until one option is left alone."""
    remaining = roll.options
    table = []
    for _ in roll.options:
        votes = votes_for(roll, remaining)
        leaver = _leaver(remaining, votes)
        table.append((remaining, votes, roll.total - sum(votes), leaver))
        remaining = tuple([option for option in remaining if option != leaver])
    return Count([row[3] for row in table[:-1]], remaining[0], table)


def _leaver(remaining, votes):
    """The latest of the options with the fewest votes, None if one option is alone."""
    if len(remaining) == 1:
        return None
    fewest = min(votes)
    return [option for option, many in zip(remaining, votes) if many == fewest][-1]
