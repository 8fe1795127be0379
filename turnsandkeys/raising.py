"""Raising tolls as little as possible so that no way is too cheap."""

from turnsandkeys.names import check_known, check_range
from turnsandkeys.prices import least
from turnsandkeys.ways import potentials


class Raising:
    """Raises that are enough, and ways which show that less is not."""

    def __init__(self, raises, ways):
        self.raises = tuple(raises)
        self.ways = tuple(ways)
        self.total = sum(self.raises)


def least_raising(links, givers, takers, price):
    """The least raises with which no way from a giver to a taker has a toll below the price."""
    _check(links, givers, takers, price)
    if price > 0 and any([giver in takers for giver in givers]):
        return None
    used = _cheapest_units(links, givers, takers, price)
    starts = _giver_costs(links, givers)
    # A further unit could also turn back one that has come to its taker, which saves no more than the price.
    for name in links.names:
        if _surplus(links, used, name) < 0:
            starts[name] = price
    costs, _ = _unit_costs(links, used, starts)
    return Raising(_raises(links, costs), _trails(links, used))


def keeps_apart(links, givers, takers, price):
    """True if no way from a giver to a taker has a toll below the price."""
    _check(links, givers, takers, price)
    prices = potentials(links, givers)
    cheapest = least([toll for name, toll in zip(links.names, prices) if name in takers])
    return cheapest is None or cheapest >= price


def _check(links, givers, takers, price):
    check_known(givers, links.names)
    check_known(takers, links.names)
    check_range(price, 0, 10 ** 9)


def _giver_costs(links, givers):
    return {name: 0 for name in links.names if name in givers}


def _cheapest_units(links, givers, takers, price):
    """The numbers of the links that carry a unit when no further unit costs less than the price."""
    used = []
    while True:
        costs, last = _unit_costs(links, used, _giver_costs(links, givers))
        ends = [name for name in links.names if name in takers and name in costs]
        cost = least([costs[name] for name in ends])
        if cost is None or cost >= price:
            return used
        end = [name for name in ends if costs[name] == cost][0]
        road = _road_back(links, used, last, end)
        used = [number for number in range(len(links)) if (number in used) != (number in road)]


def _unit_costs(links, used, starts):
    """The least costs of a further unit to each name, and the link by which it comes there last."""
    costs = dict(starts)
    last = {}
    # No ring saves costs, so as many turns as there are names are enough.
    for _ in links.names:
        for number in range(len(links)):
            start, end, toll = _arc(links, used, number)
            if start in costs and (end not in costs or costs[start] + toll < costs[end]):
                costs[end] = costs[start] + toll
                last[end] = number
    return costs, last


def _arc(links, used, number):
    """What a further unit can do at a link: go along it, or turn back the unit that is on it."""
    giver, taker, toll = links.links[number]
    if number in used:
        return (taker, giver, -toll)
    return (giver, taker, toll)


def _road_back(links, used, last, end):
    """The links by which a further unit comes from a giver to this end."""
    road = []
    name = end
    while name in last:
        road.append(last[name])
        name = _arc(links, used, last[name])[0]
    return road


def _surplus(links, used, name):
    """How many more units leave the name than come to it."""
    leaving = [number for number in used if links.links[number][0] == name]
    coming = [number for number in used if links.links[number][1] == name]
    return len(leaving) - len(coming)


def _trails(links, used):
    """Ways that the units take; rings of used links that no way needs are left out.

    Each way costs less than the price, as the units without it would else be cheaper than
    the same number of units was when the last one was sent.
    """
    trails = []
    left = used
    for name in links.names:
        for _ in range(_surplus(links, used, name)):
            trail = _trail(links, left, name)
            trails.append(tuple(trail))
            left = [number for number in left if number not in trail]
    return trails


def _trail(links, left, name):
    """Follow the links that are left from this name on, as far as they go."""
    trail = []
    holder = name
    while True:
        steps = [number for number in left if links.links[number][0] == holder and number not in trail]
        if not steps:
            return trail
        trail.append(steps[0])
        holder = links.links[steps[0]][1]


def _raises(links, costs):
    """What the cost of each taker exceeds the cost of its giver plus the toll, if it does."""
    return [
        max(0, costs[taker] - costs[giver] - toll) if giver in costs and taker in costs else 0
        for giver, taker, toll in links
    ]
