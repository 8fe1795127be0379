"""Games: all standings that can come, and what it costs to break a promise from each of them."""

from heapq import heappop, heappush

from turnsandkeys.deeds import outcomes
from turnsandkeys.errors import BadStanding, NoMove
from turnsandkeys.names import check_range
from turnsandkeys.prices import greatest, least, plus
from turnsandkeys.standings import Found, check_standing, first_standings, moves


class Game:
    """The standings that can come in a house, with their prices."""

    def __init__(self, house, *, at=None):
        if at is not None:
            check_standing(house, at)
        firsts = first_standings(house) if at is None else [at]
        # For each standing and each of its moves a dict: the least price of the deeds that lead to a
        # standing, which is the key, or to a fault, with the key None.
        self._costs = _all_costs(house, firsts)
        self._standings = tuple(self._costs)
        self._ways = _all_ways(self._costs)
        prices = _sure_sums(self._ways)
        rounds = _sure_sums(_falling_ways(self._ways, prices))
        self._prices = dict(zip(self._standings, prices))
        self._rounds = dict(zip(self._standings, rounds))

    def __len__(self):
        return len(self._standings)

    def __iter__(self):
        return iter(self._standings)

    def __contains__(self, x):
        return x in self._costs

    def price_of(self, standing):
        """The least number of coins with which the few surely break a promise, a price."""
        self._check(standing)
        return self._prices[standing]

    def worth_of(self, standing, move):
        """The price of the standing if the house makes this move."""
        self._check(standing)
        if move not in self._costs[standing]:
            raise NoMove(move)
        costs = self._costs[standing][move]
        return least([costs[after] if after is None else plus(costs[after], self._prices[after]) for after in costs])

    def best_move(self, standing):
        """The first move with the greatest worth."""
        price = self.price_of(standing)
        return [move for move in self._costs[standing] if self.worth_of(standing, move) == price][0]

    def rounds_of(self, standing):
        """The rounds in which the few break a promise at the latest, None if the price is None."""
        self._check(standing)
        return self._rounds[standing]

    def afters_of(self, standing, move):
        """The standings after the outcomes of a right move, in their order, each one once."""
        return [after for after in self._costs[standing][move] if after is not None]

    def prices_within(self, rounds):
        """The price of each standing, in order, if a promise must be broken within so many rounds."""
        prices = [None] * len(self._ways)
        for _ in range(rounds):
            later = [greatest([_least_sum(ways, prices) for ways in row]) for row in self._ways]
            if later == prices:
                # Nothing changes from here on.
                return prices
            prices = later
        return prices

    def _check(self, standing):
        if standing not in self._costs:
            raise BadStanding(standing)


def house_price(house):
    """The least price of the first standings."""
    game = Game(house)
    return least([game.price_of(standing) for standing in first_standings(house)])


def price_within(house, rounds, *, at=None):
    """The least number of coins with which the few surely break a promise within so many rounds."""
    check_range(rounds, 0, 500)
    game = Game(house, at=at)
    # The standings with which the game begins are the first ones that it finds.
    firsts = len(house.book.starts) if at is None else 1
    return least(game.prices_within(rounds)[:firsts])


def _all_costs(house, firsts):
    """For each standing that can come the least prices of its outcomes, by its moves."""
    found = Found(firsts)
    costs = {}
    while len(costs) < len(found.sequence):
        standing = found.sequence[len(costs)]
        costs[standing] = {move: _least_costs(house, standing, move) for move in moves(house, standing)}
        for afters in list(costs[standing].values()):
            found.note([after for after in afters if after is not None])
    return costs


def _least_costs(house, standing, move):
    costs = {}
    for _, price, _, after in outcomes(house, standing, move):
        if after not in costs or price < costs[after]:
            costs[after] = price
    return costs


def _all_ways(all_costs):
    """For each standing and each move the list of the pairs of a cost and a place.

    The place is that of the standing after it, and None behind a fault.
    """
    places = {standing: at for at, standing in enumerate(all_costs)}
    places[None] = None
    return [
        [[(cost, places[after]) for after, cost in costs.items()] for costs in by_move.values()]
        for by_move in all_costs.values()
    ]


def _least_sum(ways, sums):
    """The least cost of a way together with the sum at the place to which it leads."""
    return least([cost if place is None else plus(cost, sums[place]) for cost, place in ways])


def _falling_ways(all_ways, prices):
    """The ways that cost no more than the price falls, each one for 1."""
    return [
        [[(1, place) for cost, place in ways if _falls(cost, place, price, prices)] for ways in row]
        for row, price in zip(all_ways, prices)
    ]


def _falls(cost, place, price, prices):
    total = cost if place is None else plus(cost, prices[place])
    return total is not None and price is not None and total <= price


def _sure_sums(all_ways):
    """For each standing the least sum of costs with which the few surely come to a fault, a price.

    Sums are settled in ascending order: that of a move with its cheapest way, as no way to a sum that is
    settled later costs less; that of a standing with the last one of its moves.
    """
    sums = [None] * len(all_ways)
    waiting = [len(row) for row in all_ways]
    coming, queue = _turned_round(all_ways)
    settled = {}
    while queue:
        total, at, move = heappop(queue)
        if (at, move) in settled:
            continue
        settled[at, move] = True
        waiting[at] -= 1
        if waiting[at] == 0:
            sums[at] = total
            for cost, before, other in coming[at]:
                heappush(queue, (total + cost, before, other))
    return sums


def _turned_round(all_ways):
    """For each place the ways that lead to it, and the queue of the ways that lead to a fault."""
    coming = [[] for _ in all_ways]
    queue = []
    for at, row in enumerate(all_ways):
        for move, ways in enumerate(row):
            for cost, place in ways:
                if place is None:
                    heappush(queue, (cost, at, move))
                else:
                    coming[place].append((cost, at, move))
    return coming, queue
