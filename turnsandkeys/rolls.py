"""Rolls: how often each ballot occurs."""

from turnsandkeys.errors import OtherNames
from turnsandkeys.names import check_names, check_picks, check_range


class SumRows:
    """Rows of right ballots whose counts are sums, which can exceed the bound of a count."""

    def __init__(self, pairs):
        self.pairs = tuple(pairs)


def _checked_pairs(options, rows):
    if isinstance(rows, SumRows):
        return rows.pairs
    for ballot, many in rows:
        check_picks(ballot, options)
        check_range(many, 0, 10 ** 9)
    return rows


def _ballot(options, places):
    return tuple([options[place] for place in places])


def _added_up(options, pairs):
    """The pairs with one count for each ballot, in the order of ballots, without counts of 0."""
    counts = {}
    for ballot, many in pairs:
        places = tuple([options.index(option) for option in ballot])
        counts[places] = counts.get(places, 0) + many
    return tuple([(_ballot(options, key), counts[key]) for key in sorted(list(counts)) if counts[key] > 0])


class Roll:
    """How often each ballot of some options occurs."""

    def __init__(self, options, rows=()):
        check_names(options, 4)
        pairs = _checked_pairs(options, rows)
        self.options = tuple(options)
        self._rows = _added_up(self.options, pairs)
        self.total = sum([many for _, many in self._rows])

    @classmethod
    def of(cls, options, *ballots, many=1):
        """The roll in which each ballot occurs so many times for each time that it is passed."""
        return cls(options, [(ballot, many) for ballot in ballots])

    def __add__(self, other):
        if self.options != other.options:
            raise OtherNames()
        return Roll(self.options, SumRows(self._rows + other._rows))

    def __eq__(self, other):
        return isinstance(other, Roll) and self.options == other.options and self._rows == other._rows

    def __contains__(self, x):
        return any([ballot == x for ballot, _ in self._rows])

    def __getitem__(self, at):
        return sum([many for ballot, many in self._rows if ballot == at])

    def __len__(self):
        return len(self._rows)

    def __iter__(self):
        return iter(self._rows)
