"""Bounds of the price of a house by its parts alone, without a look at its standings."""

from turnsandkeys.errors import NotFull
from turnsandkeys.prices import least, plus
from turnsandkeys.tolls import Tolls


def passes_bound(house):
    """What it costs at least that a member is passed over too often, a price."""
    limits = [rule.limit for rule in house.rules if rule.limit is not None]
    if not limits:
        return None
    if "bid" in _kinds(house):
        return 0
    if len(house.members) == 1:
        return None
    return _late_price(house, min(limits))


def held_bound(house):
    """What it costs at least that the key is handed on to a barred member, a price."""
    return least([
        rule.barred_toll(member) for rule in house.rules for member in house.members if not rule.is_barred(member)
    ])


def vote_bound(house):
    """What it costs at least that a rule comes into force that bars who keeps the key, a price."""
    return least([
        rule.deposit + house.vote_price(rule.name, other.name)
        for rule in house.rules
        for other in house.rules
        if any([member not in rule.barred for member in other.barred])
    ])


def sure_price(house):
    """The least of the three bounds."""
    return least([passes_bound(house), held_bound(house), vote_bound(house)])


def is_full(house):
    """True if the house is full, so that its price can be told from its parts."""
    first = house.rules[0]
    return (
        len(house.members) >= 2
        and "bid" not in _kinds(house)
        and all([rule.deposit == first.deposit and rule.barred == () for rule in house.rules])
        and all([house.voted(name) == name for name in house.names])
        and _is_full_book(house.book)
    )


def full_price(house):
    """The price of a full house."""
    if not is_full(house):
        raise NotFull()
    votes = [(name, other, house.vote_price(name, other)) for name in house.names for other in house.names]
    roads = Tolls(house.names, votes).closed()
    return least([
        plus(roads[house.names[0], rule.name], _late_price(house, rule.limit))
        for rule in house.rules if rule.limit is not None
    ])


def _kinds(house):
    return [rule.KIND for rule in house.rules]


def _late_price(house, limit):
    """What so many rounds cost at least that a member is passed over once more than the limit."""
    size = len(house.members)
    if limit < size - 1:
        return 0
    return min([rule.deposit for rule in house.rules]) * (limit - size + 2)


def _is_full_book(book):
    if len(book) != 1:
        return False
    page = book.page(book.names[0])
    return page.wishers == book.members and page.followers == book.names and not page.home
