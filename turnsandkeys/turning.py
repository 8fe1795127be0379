"""The fewest ballots that make an option win, and papers which show it."""

from turnsandkeys.lacks import lack, lack_rows, lack_table
from turnsandkeys.names import arrangements, check_known
from turnsandkeys.rolls import Roll, SumRows
from turnsandkeys.weights import chain_weights, due, greatest_value, roll_value


def orders_to(options, option):
    """All orders of all the other options, ordered as the tuples of their places."""
    check_known([option], options)
    others = [name for name in options if name != option]
    return [order for order in arrangements(others, len(others)) if len(order) == len(others)]


def least_ballots(roll, option):
    """The least number of ballots that must be put in to make the option win."""
    return min([lack(roll, order) for order in orders_to(roll.options, option)])


def turning_order(roll, option):
    """The first of the orders that need the fewest ballots."""
    orders = orders_to(roll.options, option)
    lacks = [lack(roll, order) for order in orders]
    return orders[lacks.index(min(lacks))]


def turning_roll(roll, option):
    """A roll of the fewest ballots that make the option win if they are put in."""
    order = turning_order(roll, option)
    before = {other: 0 for other in roll.options}
    serving = {other: [] for other in roll.options}
    free = []
    for leaver, row in zip(order, lack_rows(roll, order)):
        for name in row:
            taken, free = _taken(free, name, row[name] - before[name])
            serving[name].extend(taken)
        # The ballots of the leaver serve nobody from now on, so others can have them.
        free = free + serving[leaver]
        serving[leaver] = []
        before = row
    for name in roll.options:
        free = free + serving[name]
    return Roll(roll.options, SumRows(free))


def _taken(free, name, many):
    """So many ballots that now serve this name, from free ones as far as they go, and what stays free."""
    taken = []
    left = []
    for ballot, size in free:
        part = min(size, many)
        many = many - part
        if part > 0:
            taken.append(((*ballot, name), part))
        if part < size:
            left.append((ballot, size - part))
    if many > 0:
        taken.append(((name,), many))
    return taken, left


def shows(roll, option, number, paper):
    """True if the paper shows that fewer ballots than the number do not make the option win."""
    orders = orders_to(roll.options, option)
    if [order for order, _ in paper] != orders:
        return False
    return all([_bounds(roll, order, weights, number) for order, weights in paper])


def _bounds(roll, order, weights, number):
    """True if these are weights that show that the order needs so many ballots."""
    if not all([_is_weight(roll.options, order, row) for row in weights]):
        return False
    if greatest_value(roll.options, order, weights) > 1:
        return False
    return due(roll.options, order, weights) - roll_value(roll, order, weights) >= number


def _is_weight(options, order, row):
    at, option, weight = row
    return 1 <= at <= len(order) and option in options and option not in order[:at] and weight >= 0


def turning_paper(roll, option):
    """A paper that shows the least number of ballots that make the option win."""
    return [(order, _best_weights(roll, order)) for order in orders_to(roll.options, option)]


def _best_weights(roll, order):
    sums = [sum(row) for row in lack_table(roll, order)]
    if not sums:
        return ()
    return chain_weights(roll, order, sums.index(max(sums)) + 1)
