"""Tables with a price for each pair of spots."""

from turnsandkeys.errors import BadCount, BadNumber, OtherNames
from turnsandkeys.names import check_known, check_names, check_range
from turnsandkeys.prices import least, plus


def _check_entries(names, entries):
    for giver, taker, toll in entries:
        check_known([giver, taker], names)
        if toll < 0:
            raise BadNumber(toll)


def _least_tolls(entries):
    """The least toll of each pair that has an entry."""
    tolls = {}
    for giver, taker, toll in entries:
        if (giver, taker) not in tolls or toll < tolls[giver, taker]:
            tolls[giver, taker] = toll
    return tolls


class Tolls:
    """A table with a price for each pair of spots."""

    def __init__(self, names, entries=()):
        check_names(names, 6, True)
        _check_entries(names, entries)
        self.names = tuple(names)
        self._prices = _least_tolls(entries)

    @staticmethod
    def same(names):
        """The table with 0 for each spot with itself and no other prices."""
        return Tolls(names, [(name, name, 0) for name in names])

    def __getitem__(self, at):
        giver, taker = at
        check_known([giver, taker], self.names)
        return self._prices.get((giver, taker))

    def __iter__(self):
        raise TypeError("a table of tolls is not iterated over")

    def __call__(self, prices):
        if len(prices) != len(self.names):
            raise BadCount(len(prices))
        return [
            least([plus(price, self[giver, taker]) for giver, price in zip(self.names, prices)])
            for taker in self.names
        ]

    def __mul__(self, other):
        if self.names != other.names:
            raise OtherNames()
        return Tolls(self.names, [
            (giver, taker, toll + further)
            for giver, middle, toll in self.entries()
            for start, taker, further in other.entries()
            if start == middle
        ])

    def __or__(self, other):
        if self.names != other.names:
            raise OtherNames()
        return Tolls(self.names, self.entries() + other.entries())

    def __eq__(self, other):
        return isinstance(other, Tolls) and self.names == other.names and self._prices == other._prices

    def power(self, times):
        """The product of so many factors of this table."""
        check_range(times, 0, 10 ** 30)
        result = Tolls.same(self.names)
        square = self
        while times > 0:
            if times % 2 == 1:
                result = result * square
            square = square * square
            times = times // 2
        return result

    def closed(self):
        """The least prices in all powers of this table."""
        # No toll is below 0, so a cheapest way over 6 spots needs at most 5 steps; these are 8.
        result = Tolls.same(self.names) | self
        for _ in range(3):
            result = result * result
        return result

    def entries(self):
        """The triples of all pairs that have a price."""
        return [
            (giver, taker, self._prices[giver, taker])
            for giver in self.names
            for taker in self.names
            if (giver, taker) in self._prices
        ]
