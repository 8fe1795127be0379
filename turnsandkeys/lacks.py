"""How many votes are lacking for an order of leaving."""

from turnsandkeys.counts import votes_for
from turnsandkeys.errors import BadCount
from turnsandkeys.names import check_picks


def lead(options, leaver, other):
    """How many votes the leaver must be behind another option so as to leave before it."""
    if options.index(leaver) > options.index(other):
        return 0
    return 1


def check_order(options, order):
    """Check an order like a ballot, then that it leaves at least one option."""
    check_picks(order, options)
    if len(order) == len(options):
        raise BadCount(len(order))


def lack_table(roll, order):
    """The tuple of the rows of lacks, one for each round of the order."""
    check_order(roll.options, order)
    return tuple([tuple(row.values()) for row in lack_rows(roll, order)])


def lack(roll, order):
    """The greatest sum of a row of the lack table, 0 for the empty order."""
    return max([sum(row) for row in lack_table(roll, order)], default=0)


def lack_rows(roll, order):
    """For each round of a right order a dict with the lacks of the options that remain in it."""
    rows = []
    before = {option: 0 for option in roll.options}
    for at, leaver in enumerate(order):
        remaining = [option for option in roll.options if option not in order[:at]]
        before = _next_lacks(roll, remaining, leaver, before)
        rows.append(before)
    return rows


def _next_lacks(roll, remaining, leaver, before):
    votes = dict(zip(remaining, votes_for(roll, remaining)))
    reached = votes[leaver] + before[leaver]
    lacks = {}
    for option in remaining:
        lacks[option] = before[option]
        if option != leaver:
            need = reached + lead(roll.options, leaver, option) - votes[option]
            lacks[option] = max(before[option], need)
    return lacks
