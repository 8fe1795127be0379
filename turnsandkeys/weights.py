"""Weights over an order, which bound the ballots that it needs."""

from turnsandkeys.counts import top
from turnsandkeys.lacks import check_order, lack_rows, lead
from turnsandkeys.names import arrangements, check_range


def ballot_value(ballot, order, weights):
    """The value of a ballot under the weights."""
    return sum([_row_value(ballot, order, row) for row in weights])


def _row_value(ballot, order, row):
    at, option, weight = row
    remaining = [name for name in ballot if name not in order[:at - 1]]
    first = top(ballot, remaining)
    if first == option:
        return weight
    if first == order[at - 1]:
        return -weight
    return 0


def roll_value(roll, order, weights):
    """The sum of the values of all ballots of the roll."""
    return sum([many * ballot_value(ballot, order, weights) for ballot, many in roll])


def greatest_value(options, order, weights):
    """The greatest value of any ballot of the options."""
    return max([ballot_value(ballot, order, weights) for ballot in arrangements(options, len(options))])


def due(options, order, weights):
    """The value that a roll has at least if its order of leaving begins with the order."""
    return sum([weight * lead(options, order[at - 1], option) for at, option, weight in weights])


def chain_weights(roll, order, at):
    """Weights whose due exceeds the value of the roll by the sum of row `at` of the lack table."""
    check_order(roll.options, order)
    check_range(at, 1, len(order))
    rows = lack_rows(roll, order)
    chains = [_chain(rows, order, option, at) for option in rows[at - 1]]
    return tuple([row for chain in chains for row in chain])


def _chain(rows, order, option, at):
    """The rows that follow the lack of an option in round `at` back to where it comes from."""
    chain = []
    while rows[at - 1][option] > 0:
        amount = rows[at - 1][option]
        at = [row[option] for row in rows[:at]].index(amount) + 1
        chain.append((at, option, 1))
        option = order[at - 1]
    return chain
