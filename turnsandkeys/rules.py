"""Rules: how the key is lent while they are in force."""

from turnsandkeys.errors import BadName
from turnsandkeys.ladders import ladder_prices
from turnsandkeys.links import Links
from turnsandkeys.names import check_known, check_names, check_picks, check_range, check_size, is_name
from turnsandkeys.prices import least


class Rule:
    """What both kinds of rules have."""

    def __init__(self, name, members, limit, barred, links, deposit, fee, start):
        if not is_name(name):
            raise BadName(name)
        check_names(members, 4)
        if limit is not None:
            check_range(limit, 0, 3)
        check_picks(barred, members)
        self.name = name
        self.members = tuple(members)
        self.limit = limit
        self.barred = tuple([member for member in members if member in barred])
        self.links = Links(members, links)
        for coins in (deposit, fee, start):
            check_range(coins, 0, 10 ** 9)
        self.deposit = deposit
        self.fee = fee
        self.start = start
        self._hand_tolls = _hand_tolls(self.links, self.barred)

    def is_barred(self, member):
        """True if the member must never hold the key."""
        check_known([member], self.members)
        return member in self.barred

    def hand_toll(self, giver, taker):
        """The least toll of handing the key on from the giver to the taker, a price."""
        return self._hand_tolls[giver, taker]

    def barred_toll(self, member):
        """The least toll of handing the key on from the member to a barred one, a price."""
        check_known([member], self.members)
        return least([self._hand_tolls[member, taker] for taker in self.barred])

    def candidates(self, page):
        """Those who wish for the key on the page and can have it."""
        return tuple([member for member in page.wishers if member not in self.barred])


class TurnRule(Rule):
    """A rule under which the house chooses whom to lend to."""

    KIND = "turn"

    def __init__(self, name, members, *, limit=None, barred=(), links=(), deposit=0, fee=1, start=0):
        super().__init__(name, members, limit, barred, links, deposit, fee, start)

    def __eq__(self, other):
        return isinstance(other, TurnRule) and _facts(self) == _facts(other)

    def moves(self, page):
        """The candidates, and the empty string for nobody."""
        return [*self.candidates(page), ""]

    def lets(self, page, move):
        """The one pair of the takers and their price."""
        return [((), 0)] if move == "" else [((move,), 0)]

    def lines(self):
        """The lines that write the rule."""
        return _shared_lines(self)

    def changed(self, **parts):
        """The rule with some parts changed."""
        kept = _shared_parts(self)
        told = {**kept, **parts}
        return TurnRule(self.name, self.members, **told)


class BidRule(Rule):
    """A rule under which the bids decide who gets the key."""

    KIND = "bid"

    def __init__(
        self, name, members, *, weights=None, hours=1, guests=None,
        limit=None, barred=(), links=(), deposit=0, fee=1, start=0
    ):
        super().__init__(name, members, limit, barred, links, deposit, fee, start)
        self.weights = tuple([1] * len(members) if weights is None else weights)
        check_size(len(self.weights), len(members), len(members))
        for weight in self.weights:
            check_range(weight, 1, 1000)
        check_range(hours, 1, 3)
        self.hours = hours
        self.guests = guests

    def __eq__(self, other):
        return isinstance(other, BidRule) and _facts(self) == _facts(other) and _bid_parts(self) == _bid_parts(other)

    @property
    def floor(self):
        """The least strength with which a bidder gets the key."""
        return 0 if self.guests is None else self.guests.floor

    def moves(self, page):
        """Just the empty string, as the house has no choice."""
        return [""]

    def lets(self, page, move):
        """The pairs of all takers that some bids bring about and the price of raising the bids so."""
        weights = dict(zip(self.members, self.weights))
        bids = dict(page.bids)
        bidders = [(member, weights[member], bids[member]) for member in self.candidates(page)]
        return ladder_prices(bidders, hours=self.hours, floor=self.floor)

    def lines(self):
        """The lines that write the rule."""
        lines = _shared_lines(self)
        lines.append(" ".join(["weights", *[str(weight) for weight in self.weights]]))
        lines.append(f"hours {self.hours}")
        if self.guests is not None:
            lines.extend([f"offer {charge} {weight}" for charge, weight in self.guests.offers])
            lines.append(f"aside {self.guests.aside}")
        return lines

    def changed(self, **parts):
        """The rule with some parts changed."""
        kept = _shared_parts(self)
        own = _bid_parts(self)
        told = {**kept, **own, **parts}
        return BidRule(self.name, self.members, **told)


def _hand_tolls(links, barred):
    """The least tolls of all ways along which no barred member hands the key on."""
    free = [link for link in links if link[0] not in barred]
    return Links(links.names, free).tolls().closed()


def _shared_parts(rule):
    """The parts of both kinds, by the keywords with which they are passed."""
    return {
        "limit": rule.limit, "barred": rule.barred, "links": rule.links.links,
        "deposit": rule.deposit, "fee": rule.fee, "start": rule.start,
    }


def _bid_parts(rule):
    return {"weights": rule.weights, "hours": rule.hours, "guests": rule.guests}


def _facts(rule):
    """All that rules of one kind must have in common so as to be equal, as far as both kinds have it."""
    return (rule.name, rule.members, _shared_parts(rule))


def _shared_lines(rule):
    lines = [f"{rule.KIND} {rule.name}"]
    lines.append("limit none" if rule.limit is None else f"limit {rule.limit}")
    if rule.barred:
        lines.append(" ".join(["barred", *rule.barred]))
    lines.extend([f"link {giver} {taker} {toll}" for giver, taker, toll in rule.links])
    lines.extend([f"deposit {rule.deposit}", f"fee {rule.fee}", f"start {rule.start}"])
    return lines
