"""Deeds: what the few can do in a round, what it costs, and what comes of it."""

from turnsandkeys.errors import NoDeed, NoMove
from turnsandkeys.passes import first_over, next_passes, passed_over
from turnsandkeys.standings import moves


class Lending:
    """A round in which takers have got the key for a price and nobody is passed over too often."""

    def __init__(self, house, leaf, ruling, takers, price, holder, passes):
        self.house = house
        # The Page and the Rule of the round; the last holder is the empty string if nobody has the key.
        self.leaf = leaf
        self.ruling = ruling
        self.takers = takers
        self.price = price
        self.holder = holder
        self.passes = passes


def outcomes(house, standing, move):
    """The tuples of deed, price, fault and the standing after it, for all possible deeds."""
    if move not in moves(house, standing):
        raise NoMove(move)
    page, rule, keeper, passes = standing
    leaf, ruling = house.book.page(page), house.rule(rule)
    candidates = ruling.candidates(leaf)
    pairs = ruling.lets(leaf, move) if keeper == "" else [((), 0)]
    found = []
    for takers, price in pairs:
        passed = passed_over(candidates, takers, keeper)
        over = first_over(house.members, passes, passed, ruling.limit)
        if over is not None:
            found.append(((takers, "", "", ""), price, ("passed", over), None))
        else:
            after = next_passes(house.members, passes, candidates, takers, keeper, house.most)
            holder = takers[-1] if takers else keeper
            found.extend(_holdings(Lending(house, leaf, ruling, takers, price, holder, after)))
    return found


def outcome(house, standing, move, deed):
    """The triple of price, fault and the standing after the deed."""
    for other, price, fault, after in outcomes(house, standing, move):
        if other == deed:
            return (price, fault, after)
    raise NoDeed(deed)


def _holdings(lending):
    """The outcomes of the round: the key is back, or somebody has it at the end."""
    found = _votes(lending, "", lending.price)
    if lending.holder != "":
        for member in lending.house.members:
            toll = lending.ruling.hand_toll(lending.holder, member)
            if toll is not None:
                found.extend(_handed_on(lending, member, lending.price + toll))
    return found


def _handed_on(lending, member, price):
    """The outcomes if the key comes to the member."""
    if lending.ruling.is_barred(member):
        return [((lending.takers, member, "", ""), price, ("held", member), None)]
    if lending.leaf.home:
        return []
    return _votes(lending, member, price + lending.ruling.deposit)


def _votes(lending, keeper, price):
    """The outcomes of the vote and of the choice of the next page."""
    takers, passes, followers = lending.takers, lending.passes, lending.leaf.followers
    if not followers:
        # The walk ends here, and nobody votes any more.
        return []
    found = []
    for other in lending.house.rules:
        total = price + lending.house.vote_price(lending.ruling.name, other.name)
        if keeper != "" and other.is_barred(keeper):
            found.append(((takers, keeper, other.name, ""), total, ("held", keeper), None))
        else:
            found.extend([
                ((takers, keeper, other.name, follower), total, None, (follower, other.name, keeper, passes))
                for follower in followers
            ])
    return found
