"""Who can have the key at a moment, and for how many coins, if the few also choose the moves."""

from turnsandkeys.errors import BadRow
from turnsandkeys.prices import least, plus
from turnsandkeys.tolls import Tolls


def check_rounds(house, rounds):
    """Refuse the first told round whose page or rule the house does not have."""
    for place, (page, rule) in enumerate(rounds):
        if page not in house.book.names or rule not in house.names:
            raise BadRow(place)


def spots_of(house):
    """The hook and the members."""
    return ("", *house.members)


def round_ways(house, page, rule, before):
    """The triples of takers, the keeper and the price, for all rounds with this keeper before them.

    It refuses a page, then a rule, that the house does not have.
    """
    leaf, ruling = house.book.page(page), house.rule(rule)
    found = []
    for takers, price in _lets(leaf, ruling, before):
        found.append((takers, "", price))
        holder = takers[-1] if takers else before
        if holder != "" and not leaf.home:
            tolls = [(member, ruling.hand_toll(holder, member)) for member in ruling.members]
            found.extend([
                (takers, member, price + toll + ruling.deposit)
                for member, toll in tolls if toll is not None and member not in ruling.barred
            ])
    return found


def hold_tolls(house, page, rule):
    """The least prices of a round by the keeper before it and the keeper at its end."""
    spots = spots_of(house)
    return Tolls(spots, [
        (before, keeper, price)
        for before in spots
        for _, keeper, price in round_ways(house, page, rule, before)
    ])


def round_tolls(house, rounds):
    """The Tolls of each round; equal rounds share theirs."""
    known = {}
    found = []
    for page, rule in rounds:
        if (page, rule) not in known:
            known[page, rule] = hold_tolls(house, page, rule)
        found.append(known[page, rule])
    return found


def keeper_prices(house, rounds):
    """For each number of rounds the least prices of a holding of so many, by its last keeper."""
    check_rounds(house, rounds)
    prices = [_first_prices(house)]
    for tolls in round_tolls(house, rounds):
        prices.append(tolls(prices[-1]))
    return prices


def far_keeper_prices(house, page, rule, times):
    """The least prices behind so many rounds with this page and this rule."""
    power = hold_tolls(house, page, rule).power(times)
    return power(_first_prices(house))


def holder_prices(house, rounds):
    """For each round the least prices for which each member has the key at some time in it."""
    prices = keeper_prices(house, rounds)
    found = []
    for (page, rule), before in zip(rounds, prices):
        tolls = _round_having_tolls(house, page, rule)
        found.append([
            least([plus(price, tolls[spot, member]) for spot, price in zip(spots_of(house), before)])
            for member in house.members
        ])
    return found


def _first_prices(house):
    """Before the first round the key is on the hook."""
    return [0 if spot == "" else None for spot in spots_of(house)]


def _lets(leaf, ruling, before):
    """All pairs of takers and their price, for any move of the house, with this keeper before the round."""
    if before in ruling.barred:
        return []
    if before != "":
        return [((), 0)]
    return [pair for move in ruling.moves(leaf) for pair in ruling.lets(leaf, move)]


def _round_having_tolls(house, page, rule):
    """The Tolls from the keeper before the round to each member who has the key at some time in it."""
    leaf, ruling = house.book.page(page), house.rule(rule)
    # Whoever has kept the key has it, also if the rule of the round bars this.
    entries = [(member, member, 0) for member in house.members]
    for before in spots_of(house):
        for takers, price in _lets(leaf, ruling, before):
            entries.extend([(before, taker, price) for taker in takers])
            holder = takers[-1] if takers else before
            if holder != "":
                tolls = [(member, ruling.hand_toll(holder, member)) for member in house.members]
                entries.extend([(before, member, price + toll) for member, toll in tolls if toll is not None])
    return Tolls(spots_of(house), entries)
