"""Broken rows: how the few break a house whose habit they know."""

from heapq import heappop, heappush

from turnsandkeys.deeds import outcomes
from turnsandkeys.prices import greatest
from turnsandkeys.standings import Found, first_standings


class BrokenRow:
    """Rounds of which the last one breaks a promise, and what they cost."""

    def __init__(self, price, rounds, fault):
        self.price = price
        self.rounds = tuple(rounds)
        self.fault = fault


def cheapest_row(habit, house):
    """The first of the shortest of the cheapest broken rows, None if there is none."""
    course = _course(habit, house)
    marks = _marks(course)
    firsts = [first for first in first_standings(house) if first in marks]
    if not firsts:
        return None
    best = min([marks[first] for first in firsts])
    standing = [first for first in firsts if marks[first] == best][0]
    rounds = []
    fault = None
    while fault is None:
        deed, fault, after = _first_deed(course, marks, standing)
        rounds.append((standing, course[standing][0], deed))
        standing = after
    return BrokenRow(best[0], rounds, fault)


def habit_price(habit, house):
    """The least price of a broken row, None if there is none."""
    row = cheapest_row(habit, house)
    return None if row is None else row.price


def habit_rows(habit, house):
    """A closed table that shows the price of the habit."""
    course = _course(habit, house)
    marks = _marks(course)
    return [
        (standing, move, marks[standing][0] if standing in marks else None)
        for standing, (move, _) in course.items()
    ]


def best_habit(house, *habits):
    """The first of the habits with the greatest price."""
    prices = [habit_price(habit, house) for habit in habits]
    return habits[prices.index(greatest(prices))]


def parting(first, second, house):
    """The shortest way to a standing at which the habits move differently, None if there is none."""
    found = Found(first_standings(house))
    before = {start: None for start in found.sequence}
    apart = []
    at = 0
    # All that can come is looked at, also behind a parting, as there can be too much of it.
    while at < len(found.sequence):
        standing = found.sequence[at]
        move = first(house, standing)
        if move != second(house, standing):
            apart.append(standing)
        else:
            afters = _afters(outcomes(house, standing, move))
            for after in afters:
                before.setdefault(after, standing)
            found.note(afters)
        at += 1
    return _way_to(before, apart[0]) if apart else None


def _way_to(before, standing):
    """The standings from a first one to this one, each of which was found from the one before it."""
    way = []
    while standing is not None:
        way = [standing, *way]
        standing = before[standing]
    return way


def _afters(told):
    """The standings after the outcomes."""
    return [after for _, _, _, after in told if after is not None]


def _course(habit, house):
    """For each standing that can come while the habit lends, its move and the outcomes of it."""
    found = Found(first_standings(house))
    course = {}
    while len(course) < len(found.sequence):
        standing = found.sequence[len(course)]
        move = habit(house, standing)
        told = outcomes(house, standing, move)
        course[standing] = (move, told)
        found.note(_afters(told))
    return course


def _marks(course):
    """For each standing from which a promise can be broken the least pair of a price and the rounds of it.

    Pairs are settled in ascending order, from the faults back to the first standings.
    """
    coming = {key: [] for key in course}
    queue = []
    places = list(course)
    for at, standing in enumerate(places):
        for after, price in _least_prices(course[standing][1]).items():
            if after is None:
                heappush(queue, (price, 1, at))
            else:
                coming[after].append((price, at))
    marks = {}
    while queue:
        price, rounds, at = heappop(queue)
        if places[at] not in marks:
            marks[places[at]] = (price, rounds)
            for more, earlier in coming[places[at]]:
                heappush(queue, (price + more, rounds + 1, earlier))
    return marks


def _least_prices(told):
    """The least price of the deeds that lead to each standing, or to a fault, with the key None."""
    prices = {}
    for _, price, _, after in told:
        if after not in prices or price < prices[after]:
            prices[after] = price
    return prices


def _first_deed(course, marks, standing):
    """The first deed of a cheapest and shortest broken row from here, its fault, and the standing after it."""
    rows = [
        (deed, fault, after)
        for deed, price, fault, after in course[standing][1]
        if _mark_by(marks, price, fault, after) == marks[standing]
    ]
    return rows[0]


def _mark_by(marks, price, fault, after):
    """The pair of the price and the rounds if this deed is done, None if no promise can be broken then."""
    if fault is not None:
        return (price, 1)
    if after not in marks:
        return None
    further, rounds = marks[after]
    return (price + further, rounds + 1)
