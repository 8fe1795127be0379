"""Ways along links, and what they cost."""

from turnsandkeys.links import check_numbers
from turnsandkeys.names import check_known
from turnsandkeys.prices import least, plus


def is_way(links, giver, taker, numbers):
    """True if the link numbers are a way from the giver to the taker."""
    check_known([giver, taker], links.names)
    holder = giver
    for number in numbers:
        if not 0 <= number < len(links):
            return False
        start, end, _ = links.links[number]
        if start != holder:
            return False
        holder = end
    return holder == taker


def way_toll(links, numbers):
    """The sum of the tolls of these links."""
    check_numbers(links, numbers)
    return sum([links.links[number][2] for number in numbers])


def least_toll(links, giver, taker):
    """The least toll of all ways from the giver to the taker, a price."""
    check_known([giver, taker], links.names)
    return potentials(links, [giver])[links.names.index(taker)]


def first_way(links, giver, taker):
    """The first of the shortest of the cheapest ways, None if there is no way."""
    check_known([giver, taker], links.names)
    costs = _costs_to(links, taker)
    if giver not in costs:
        return None
    way = []
    holder = giver
    while holder != taker:
        number = _first_link(links, costs, holder)
        way.append(number)
        holder = links.links[number][1]
    return way


def potentials(links, givers):
    """For each name the least toll of a way from one of the givers, a price."""
    check_known(givers, links.names)
    prices = {name: 0 if name in givers else None for name in links.names}
    # A cheapest way passes no name twice, so as many turns as there are names are enough.
    for _ in links.names:
        for giver, taker, toll in links:
            prices[taker] = least([prices[taker], plus(prices[giver], toll)])
    return [prices[name] for name in links.names]


def _costs_to(links, taker):
    """For each name with a way to the taker the least pair of the toll and the number of links."""
    costs = {taker: (0, 0)}
    for _ in links.names:
        for start, end, toll in links:
            if end in costs:
                cost = _cost_through(costs, end, toll)
                if start not in costs or cost < costs[start]:
                    costs[start] = cost
    return costs


def _cost_through(costs, end, toll):
    further, many = costs[end]
    return (further + toll, many + 1)


def _first_link(links, costs, holder):
    """The first link with which a cheapest and shortest way goes on."""
    numbers = [
        number
        for number, (start, end, toll) in enumerate(links)
        if start == holder and end in costs and _cost_through(costs, end, toll) == costs[holder]
    ]
    return numbers[0]
