"""The least number for which the price of a changed house is enough."""

from turnsandkeys.errors import BadNumber
from turnsandkeys.names import check_range
from turnsandkeys.papers import Table, decide


class Least:
    """The first of some tries that is enough, the table that shows it, and plans for tries that are not."""

    def __init__(self, number, table, plans):
        self.number = number
        self.table = table
        self.plans = tuple(plans)


def least_deposit(house, price, *, most=20):
    """The least deposit of all rules with which the house has at least this price."""
    _check(price, most, 10 ** 9)
    return _halved(lambda number: house.changed(deposit=number), price, most)


def least_fee(house, price, *, most=20):
    """The least fee of all rules with which the house has at least this price."""
    _check(price, most, 10 ** 9)
    return _halved(lambda number: house.changed(fee=number), price, most)


def least_limit(house, price, *, most=3):
    """The least limit of all rules with which the house has at least this price."""
    _check(price, most, 3)
    found = first_enough(list(range(most + 1)), lambda number: house.changed(limit=number), price)
    return Least(found.number, found.table, found.plans[-1:])


def least_start(house, price, *, most=5):
    """The least start of all rules with which the house has at least this price."""
    _check(price, most, 20)
    return first_enough(list(range(most + 1)), lambda number: house.changed(start=number), price)


def check_price(price):
    """Refuse a price that every house has."""
    if price < 1:
        raise BadNumber(price)


def first_enough(tries, changed, price):
    """The first of the tries for which the changed house has at least this price, with all plans before it."""
    plans = []
    for number in tries:
        paper = decide(changed(number), price - 1)
        if isinstance(paper, Table):
            return Least(number, paper, plans)
        plans.append(paper)
    return Least(None, None, plans)


def _check(price, most, bound):
    check_price(price)
    check_range(most, 0, bound)


def _halved(changed, price, most):
    """As first_enough for all numbers up to `most`, if each number above one that is enough is enough, too.

    Only the last plan is kept.
    """
    table = None
    plans = []
    low, high = 0, most + 1
    # Numbers below `low` are not enough; `high` is enough, if it is a number that is tried.
    while low < high:
        middle = (low + high) // 2
        paper = decide(changed(middle), price - 1)
        if isinstance(paper, Table):
            high, table = middle, paper
        else:
            low, plans = middle + 1, [paper]
    return Least(None if table is None else high, table, plans)
