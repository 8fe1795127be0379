"""Taking links out of a rule, or raising their tolls, until a house has a price."""

from turnsandkeys.least import check_price, first_enough
from turnsandkeys.names import check_size
from turnsandkeys.raising import least_raising

MOST_LINKS = 4


def fewest_shut(house, name, price):
    """The first of the shortest tuples of links without which the house has at least this price."""
    rule = house.rule(name)
    check_price(price)
    check_size(len(rule.links), 0, MOST_LINKS)

    def shut(numbers):
        left = rule.links.without(*numbers)
        return house.with_rule(rule.changed(links=left.links))

    return first_enough(_tuples(len(rule.links)), shut, price)


def guarded(house, name, price):
    """The house with least raises of the rule's tolls that guard its barred members, and the sum of the raises."""
    rule = house.rule(name)
    free = [member for member in house.members if not rule.is_barred(member)]
    raising = least_raising(rule.links, free, rule.barred, price)
    raised = rule.links.raised(raising.raises)
    return (house.with_rule(rule.changed(links=raised.links)), raising.total)


def _tuples(size):
    """All ascending tuples of the numbers below the size, by their lengths."""
    found = [()]
    for number in range(size):
        found.extend([(*numbers, number) for numbers in list(found)])
    return sorted(found, key=_rank)


def _rank(numbers):
    return (len(numbers), numbers)
