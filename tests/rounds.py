"""Rounds and games reckoned as the document says them, deed by deed and round by round."""

import itertools

from making import some_house
from turnsandkeys.deeds import outcomes
from turnsandkeys.errors import TooLarge
from turnsandkeys.games import Game
from turnsandkeys.standings import moves


def plus(price, other):
    return None if price is None or other is None else price + other


def least(prices):
    return min([price for price in prices if price is not None], default=None)


def greatest(prices):
    return None if None in prices else max(prices)


def all_deeds(house):
    """All tuples that have the form of a deed, most of them not possible."""
    takers = [names for size in range(4) for names in itertools.permutations(house.members, size)]
    return list(itertools.product(takers, ["", *house.members], ["", *house.names], ["", *house.book.names]))


def outcome_by_hand(house, standing, move, deed):
    """The price, the fault and the standing after it of one deed, None if it is not possible."""
    page, rule, keeper, passes = standing
    takers, second, third, fourth = deed
    [leaf] = [found for found in house.book if found.name == page]
    [ruling] = [found for found in house.rules if found.name == rule]
    lets = {(): 0} if keeper else dict(ruling.lets(leaf, move))
    if takers not in lets:
        return None
    price = lets[takers]
    after = list(passes)
    for at, member in enumerate(house.members):
        if member in takers or member == keeper:
            after[at] = 0
        elif member in dict(leaf.bids) and member not in ruling.barred:
            if ruling.limit is not None and passes[at] >= ruling.limit:
                return (price, ("passed", member), None) if deed[1:] == ("", "", "") else None
            after[at] = min(passes[at] + 1, house.most)
    last = keeper if keeper else "".join(takers[-1:])
    if second:
        toll = ruling.hand_toll(last, second) if last else None
        if toll is None:
            return None
        price += toll
        if second in ruling.barred:
            return (price, ("held", second), None) if (third, fourth) == ("", "") else None
        if leaf.home:
            return None
        price += ruling.deposit
    if not leaf.followers or third not in house.names:
        return None
    price += house.vote_price(rule, third)
    if second and second in house.rule(third).barred:
        return (price, ("held", second), None) if fourth == "" else None
    if fourth not in leaf.followers:
        return None
    return (price, None, (fourth, third, second, tuple(after)))


def outcomes_by_hand(house, standing, move):
    """The outcomes in their order, found among all deeds."""
    page, rule, keeper, _ = standing
    leaf = house.book.page(page)
    lets = [()] if keeper else [takers for takers, _ in house.rule(rule).lets(leaf, move)]
    rows = []
    for deed in all_deeds(house):
        found = outcome_by_hand(house, standing, move, deed)
        if found is not None:
            takers, second, third, fourth = deed
            key = (
                lets.index(takers), ["", *house.members].index(second), ["", *house.names].index(third),
                ["", *leaf.followers].index(fourth),
            )
            rows.append((key, (deed, *found)))
    return [row for _, row in sorted(rows, key=lambda row: row[0])]


def standings_by_hand(house, firsts):
    """The standings that can come, each where it is found first."""
    found = list(firsts)
    for standing in found:
        for move in moves(house, standing):
            for _, _, _, after in outcomes(house, standing, move):
                if after is not None and after not in found:
                    found.append(after)
    return found


def table_of(house, standings):
    """All outcomes of all moves of the standings."""
    return {standing: {move: outcomes(house, standing, move) for move in moves(house, standing)} for standing in standings}


def worth_by_hand(told, prices):
    return least([price if fault else plus(price, prices[after]) for _, price, fault, after in told])


def next_prices(table, prices):
    """The prices with one round more."""
    return {
        standing: greatest([worth_by_hand(told, prices) for told in by_move.values()]) for standing, by_move in table.items()
    }


def prices_by_hand(table):
    """The prices, reckoned round by round from None on until nothing changes."""
    prices = {standing: None for standing in table}
    while True:
        later = next_prices(table, prices)
        if later == prices:
            return prices
        prices = later


def rounds_by_hand(table, prices):
    """The rounds, found number by number."""
    rounds = {standing: None for standing in table}
    for number in range(1, len(table) + 1):
        fresh = []
        for standing, by_move in table.items():
            if rounds[standing] is None and prices[standing] is not None:
                if all(any(is_near(row, prices[standing], prices, rounds) for row in told) for told in by_move.values()):
                    fresh.append(standing)
        for standing in fresh:
            rounds[standing] = number
    return rounds


def is_near(row, price, prices, rounds):
    """True if the outcome is one that makes the rounds fall, as far as the rounds are known."""
    _, cost, fault, after = row
    if fault:
        return cost <= price
    return rounds[after] is not None and cost + prices[after] <= price


def some_games(chance, number, most=60, fewest=1, **sizes):
    """Random houses with so many standings, with their games."""
    found = []
    while len(found) < number:
        house = some_house(chance, **sizes)
        try:
            game = Game(house)
        except TooLarge:
            continue
        if fewest <= len(game) <= most:
            found.append((house, game))
    return found
