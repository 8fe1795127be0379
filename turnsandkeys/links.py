"""Links along which a key can be handed on."""

from turnsandkeys.errors import BadCount, BadNumber, DoubledName, NoLink
from turnsandkeys.names import check_known, check_names, check_range, check_size
from turnsandkeys.tolls import Tolls

MOST_LINKS = 12
MOST_TOLL = 10 ** 9


def _check_links(names, links):
    check_size(len(links), 0, MOST_LINKS)
    for giver, taker, toll in links:
        check_known([giver, taker], names)
        if giver == taker:
            raise DoubledName(giver)
        check_range(toll, 0, MOST_TOLL)


def check_numbers(links, numbers):
    """Refuse the first number that no link has."""
    for number in numbers:
        if not 0 <= number < len(links):
            raise NoLink(number)


class Links:
    """How a key can be handed on, and for how many coins."""

    def __init__(self, names, links=()):
        check_names(names, 6)
        _check_links(names, links)
        self.names = tuple(names)
        self.links = tuple([(giver, taker, toll) for giver, taker, toll in links])

    def __len__(self):
        return len(self.links)

    def __iter__(self):
        return iter(self.links)

    def __eq__(self, other):
        return isinstance(other, Links) and self.names == other.names and self.links == other.links

    def tolls(self):
        """The Tolls with an entry for each link."""
        return Tolls(self.names, self.links)

    def raised(self, raises):
        """The Links in which each toll is greater by its raise."""
        if len(raises) != len(self.links):
            raise BadCount(len(raises))
        for number in raises:
            if number < 0:
                raise BadNumber(number)
        # A sum that is too great is refused by the checks of the new links.
        return Links(self.names, [
            (giver, taker, toll + more) for (giver, taker, toll), more in zip(self.links, raises)
        ])

    def without(self, *numbers):
        """The Links without the links of these numbers."""
        check_numbers(self, numbers)
        return Links(self.names, [link for at, link in enumerate(self.links) if at not in numbers])
