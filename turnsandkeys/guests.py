"""Guests to whom the house can show offers instead of lending the key."""

from math import gcd

from turnsandkeys.errors import BadLot, BadNumber
from turnsandkeys.names import check_range, check_size


def _check_offers(offers):
    check_size(len(offers), 0, 8)
    for charge, weight in offers:
        check_range(charge, 0, 10 ** 6)
        check_range(weight, 1, 1000)


class Guests:
    """A crowd of guests, and what a guest brings if some offers are shown."""

    def __init__(self, offers, aside):
        _check_offers(offers)
        check_range(aside, 1, 1000)
        self.offers = tuple([tuple(offer) for offer in offers])
        self.aside = aside

    def __eq__(self, other):
        return isinstance(other, Guests) and self.offers == other.offers and self.aside == other.aside

    def mean(self, lot):
        """What a guest to whom the lot is shown brings on average, in lowest terms."""
        if list(lot) != [number for number in range(len(self.offers)) if number in lot]:
            raise BadLot(lot)
        shown = [self.offers[number] for number in lot]
        top = sum([charge * weight for charge, weight in shown])
        bottom = self.aside + sum([weight for _, weight in shown])
        shared = gcd(top, bottom)
        return (top // shared, bottom // shared)

    def best(self, *, most=None):
        """The lot that the greatest mean picks, and this mean."""
        rate, lot = self._climbed(most)[-1]
        return (lot, rate)

    def climb(self, *, most=None):
        """Pairs of a rate and the lot that it picks, from the rate 0 up to the greatest mean."""
        for pair in self._climbed(most):
            yield pair

    @property
    def floor(self):
        """The least integer that is not less than the greatest mean of all lots."""
        _, (top, bottom) = self.best()
        return (top + bottom - 1) // bottom

    def _climbed(self, most):
        """The list of all pairs of the climb: a property needs them, and it runs no generator."""
        if most is not None and most < 0:
            raise BadNumber(most)
        rate = (0, 1)
        lot = self._picked(rate, most)
        pairs = [(rate, lot)]
        while self.mean(lot) != rate:
            rate = self.mean(lot)
            lot = self._picked(rate, most)
            pairs.append((rate, lot))
        return pairs

    def _picked(self, rate, most):
        """The lot of the offers with the greatest excesses above 0 at the rate."""
        top, bottom = rate
        # The negative excesses, times the bottom, so that sorting puts the greatest excess first.
        pairs = [
            (weight * (top - charge * bottom), number) for number, (charge, weight) in enumerate(self.offers)
        ]
        wanted = [number for loss, number in sorted(pairs) if loss < 0]
        return tuple(sorted(wanted[:most]))
