"""Calls, which make the key be back at the end of a round."""

from turnsandkeys.errors import BadCount, BadNumber
from turnsandkeys.holding import check_rounds, round_tolls
from turnsandkeys.names import check_known, check_range
from turnsandkeys.prices import least, plus, reaches


class Calls:
    """The rounds with calls, what they cost together, and a price for each wish which shows that less is not enough."""

    def __init__(self, calls, total, prices):
        self.calls = tuple(calls)
        self.total = total
        self.prices = tuple(prices)


def latest_taking(house, rounds, wish):
    """The latest round with which a stay begins that costs less than the wish says, 0 if there is none."""
    _check(house, rounds, [wish])
    return _window(house, round_tolls(house, rounds), wish)[0]


def keeps_wishes(house, rounds, wishes, calls):
    """True if calls at these rounds keep all wishes."""
    _check(house, rounds, wishes)
    for number in calls:
        check_range(number, 1, len(rounds))
    windows = _windows(house, rounds, wishes)
    return all([taking == 0 or _is_hit((taking, end), calls) for taking, end in windows])


def cheapest_calls(house, rounds, wishes, costs):
    """The cheapest calls that keep all wishes."""
    _check(house, rounds, wishes)
    if len(costs) != len(rounds):
        raise BadCount(len(costs))
    for cost in costs:
        check_range(cost, 0, 10 ** 9)
    windows = _windows(house, rounds, wishes)
    calls = _least_calls([window for window in windows if window[0] > 0], costs)
    return Calls(calls, sum([costs[number - 1] for number in calls]), _wish_prices(windows, costs))


def _check(house, rounds, wishes):
    check_rounds(house, rounds)
    for member, number, price in wishes:
        check_known([member], house.members)
        check_range(number, 1, len(rounds))
        if price < 0:
            raise BadNumber(price)


def _windows(house, rounds, wishes):
    """For each wish the pair of its latest taking and its round."""
    tolls = round_tolls(house, rounds)
    return [_window(house, tolls, wish) for wish in wishes]


def _window(house, tolls, wish):
    member, end, price = wish
    # For each keeper of a round what it costs to go on to the end of the stay without the key being back.
    further = {other: 0 if other == member else None for other in house.members}
    for number in reversed(range(1, end + 1)):
        table = tolls[number - 1]
        stay = least([plus(table["", keeper], further[keeper]) for keeper in house.members])
        if not reaches(stay, price):
            return (number, end)
        further = {
            before: least([plus(table[before, keeper], further[keeper]) for keeper in house.members])
            for before in house.members
        }
    return (0, end)


def _is_hit(window, calls):
    """True if one of the calls is in the window."""
    first, last = window
    return any([first <= number <= last for number in calls])


def _least_calls(windows, costs):
    """The cheapest rounds, in ascending order, of which each window has one."""
    # For each round the least sum and the rounds of calls that end with it and hit all windows that end before it.
    best = [(0, ())]
    ends = [*costs, 0]
    for number in range(1, len(ends) + 1):
        sums = [
            (total + ends[number - 1], (*calls, number))
            for last, (total, calls) in enumerate(best)
            if not any([last < first and end < number for first, end in windows])
        ]
        best.append(min(sums))
    # The last one is no round: it stands behind all of them and costs nothing.
    return best[-1][1][:-1]


def _wish_prices(windows, costs):
    """For each wish as much as the costs of the rounds of its window still allow.

    The wishes take their prices in the order of their rounds. So whenever a wish gets no more, some round
    of its window has been used up by wishes that end no later, and the prices together are the greatest ones.
    """
    prices = [0] * len(windows)
    free = list(costs)
    for last, first, at in sorted([(end, taking, place) for place, (taking, end) in enumerate(windows)]):
        if first > 0:
            prices[at] = min(free[first - 1:last])
            for number in range(first - 1, last):
                free[number] -= prices[at]
    return prices
