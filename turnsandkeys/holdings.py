"""Holdings along told rounds: the cheapest ones, and what any of them costs."""

from turnsandkeys.errors import BadHolding
from turnsandkeys.holding import check_rounds, keeper_prices, round_ways, spots_of
from turnsandkeys.names import check_known
from turnsandkeys.prices import least, plus


def cheapest_holding(house, rounds, spot):
    """A cheapest holding along all the rounds with this last keeper, None if there is none."""
    prices = keeper_prices(house, rounds)
    spots = spots_of(house)
    check_known([spot], spots)
    if prices[-1][spots.index(spot)] is None:
        return None
    holding = []
    keeper = spot
    # From the last round to the first one, each time a round by which the price comes about.
    for (page, rule), earlier, later in reversed(list(zip(rounds, prices, prices[1:]))):
        price = later[spots.index(keeper)]
        before, takers = _round_to(house, (page, rule), dict(zip(spots, earlier)), keeper, price)
        holding = [(takers, keeper), *holding]
        keeper = before
    return holding


def holding_price(house, rounds, holding):
    """The price of a holding along the rounds."""
    check_rounds(house, rounds)
    if len(holding) != len(rounds):
        raise BadHolding(min(len(holding), len(rounds)))
    total = 0
    before = ""
    for place, (page, rule) in enumerate(rounds):
        takers, keeper = holding[place]
        ways = round_ways(house, page, rule, before)
        price = least([coins for others, spot, coins in ways if others == takers and spot == keeper])
        if price is None:
            raise BadHolding(place)
        total += price
        before = keeper
    return total


def _round_to(house, told, prices, keeper, price):
    """The keeper before a round and its takers, such that it has this keeper and this price is reached."""
    page, rule = told
    found = [
        (before, takers)
        for before in spots_of(house)
        for takers, spot, coins in round_ways(house, page, rule, before)
        if spot == keeper and plus(prices[before], coins) == price
    ]
    return found[0]
