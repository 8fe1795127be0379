"""Houses: their rules, their book, and the ballots of their votes."""

from turnsandkeys.counts import count
from turnsandkeys.errors import DoubledName, OtherNames
from turnsandkeys.names import check_known, check_size
from turnsandkeys.rolls import Roll, SumRows
from turnsandkeys.turning import least_ballots


def _check_rules(rules, book):
    check_size(len(rules), 1, 3)
    for at, rule in enumerate(rules):
        if rule.members != book.members:
            raise OtherNames()
        if rule.name in [earlier.name for earlier in rules[:at]]:
            raise DoubledName(rule.name)


class House:
    """A common house with one key."""

    def __init__(self, rules, book, ballots=()):
        _check_rules(rules, book)
        self.members = book.members
        self.rules = tuple(rules)
        self.names = tuple([rule.name for rule in rules])
        self.book = book
        self.roll = Roll(self.names, ballots)
        self.most = max([rule.limit for rule in rules if rule.limit is not None], default=0)
        # A game asks for these at every standing, so they are reckoned once.
        self._vote_prices = {
            (name, other): self.rule(name).fee * least_ballots(self.roll_under(name), other)
            for name in self.names
            for other in self.names
        }

    def __eq__(self, other):
        return (
            isinstance(other, House) and self.rules == other.rules and self.book == other.book
            and self.roll == other.roll
        )

    def rule(self, name):
        """The rule with this name."""
        check_known([name], self.names)
        return self.rules[self.names.index(name)]

    def roll_under(self, name):
        """The roll that is counted while the rule is in force."""
        return self.roll + Roll.of(self.names, (name,), many=self.rule(name).start)

    def voted(self, name):
        """The name of the rule that comes into force after this one if the few put in nothing."""
        return count(self.roll_under(name)).winner

    def vote_price(self, name, other):
        """The price for which the other rule comes into force after this one."""
        check_known([name, other], self.names)
        return self._vote_prices[name, other]

    def changed(self, **parts):
        """The house with some parts of each rule changed."""
        return self._with([rule.changed(**parts) for rule in self.rules], self.book)

    def with_rule(self, rule):
        """The house in which the rule takes the place of the one with its name."""
        check_known([rule.name], self.names)
        return self._with([rule if rule.name == kept.name else kept for kept in self.rules], self.book)

    def with_book(self, book):
        """The house with another book."""
        return self._with(self.rules, book)

    def alone(self, name):
        """The house that has only this rule, and no ballots."""
        return House([self.rule(name)], self.book)

    def _with(self, rules, book):
        # The counts of the roll can be sums, which can exceed the bound of a count.
        return House(rules, book, SumRows(list(self.roll)))
