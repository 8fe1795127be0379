"""Giving hours with falling rates to the dearest bidders."""

from turnsandkeys.ladders import check_bidders, ladder, ranked, strength
from turnsandkeys.names import check_range, check_size


class Allotment:
    """Who gets each hour, what that is worth, and the rent of each hour."""

    def __init__(self, takers, total, rents):
        self.takers = tuple(takers)
        self.total = total
        self.rents = tuple(rents)


def dearest(bidders, rates, *, floor=0):
    """Give the hours so that the sum of rate times strength is the greatest."""
    check_bidders(bidders)
    _check_rates(rates)
    # The floor comes last, and the ladder checks it.
    names = ladder(bidders, hours=len(rates), floor=floor)
    guests = [""] * (len(rates) - len(names))
    takers = [*names, *guests]
    strengths = {bidder[0]: strength(bidder) for bidder in bidders}
    total = sum([rate * strengths.get(taker, floor) for rate, taker in zip(rates, takers)])
    return Allotment(takers, total, _rents(bidders, rates, floor))


def _check_rates(rates):
    check_size(len(rates), 1, 3)
    highest = 1000
    for rate in rates:
        check_range(rate, 1, highest)
        highest = rate


def _rents(bidders, rates, floor):
    """The rents, reckoned from the last hour to the first."""
    strengths = [strength(bidder) for bidder in ranked(bidders)]
    rents = []
    rent = 0
    next_rate = 0
    for hour in reversed(range(len(rates))):
        rival = max([floor, *strengths[hour + 1:]])
        rent = rent + rival * (rates[hour] - next_rate)
        next_rate = rates[hour]
        rents = [rent, *rents]
    return rents
