"""Ladders: which bidders get the hours, and what it costs to change that."""

from turnsandkeys.errors import BadName, DoubledName
from turnsandkeys.names import arrangements, check_picks, check_range, check_size, is_name


def check_bidders(bidders):
    """Check a list of bidders."""
    check_size(len(bidders), 0, 6)
    for at, (name, weight, bid) in enumerate(bidders):
        if not is_name(name):
            raise BadName(name)
        if name in _names(bidders[:at]):
            raise DoubledName(name)
        check_range(weight, 1, 1000)
        check_range(bid, 0, 10 ** 9)


def _check(bidders, hours, floor):
    check_bidders(bidders)
    check_range(hours, 1, 3)
    check_range(floor, 0, 10 ** 12)


def _names(bidders):
    return [bidder[0] for bidder in bidders]


def strength(bidder):
    """Weight times bid."""
    _, weight, bid = bidder
    return weight * bid


def _weakness(bidder):
    return -strength(bidder)


def ranked(bidders):
    """The bidders in their ranking; sorting keeps the order of those that are equally strong."""
    return sorted(bidders, key=_weakness)


def ladder(bidders, *, hours=1, floor=0):
    """The names of the first bidders in the ranking that reach the floor, one for each hour at most."""
    _check(bidders, hours, floor)
    return tuple(_names([bidder for bidder in ranked(bidders) if strength(bidder) >= floor])[:hours])


def raises_for(bidders, names, *, hours=1, floor=0):
    """The least raises that make these names the ladder, None if no raises do."""
    _check(bidders, hours, floor)
    check_picks(names, _names(bidders))
    return _raises(bidders, names, hours, floor)


def ladder_prices(bidders, *, hours=1, floor=0):
    """All ladders that some raises bring about, each with its price."""
    _check(bidders, hours, floor)
    pairs = []
    for names in arrangements(_names(bidders), hours):
        raises = _raises(bidders, names, hours, floor)
        if raises is not None:
            pairs.append((names, sum(raises)))
    return pairs


def _raises(bidders, names, hours, floor):
    # Those who must rank behind, as pairs of strength and place: first all who are not named.
    behind = [(strength(bidder), place) for place, bidder in enumerate(bidders) if bidder[0] not in names]
    strongest = max([rival for rival, _ in behind], default=-1)
    if len(names) > hours or (len(names) < hours and strongest >= floor):
        return None
    raises = [0] * len(bidders)
    for name in reversed(list(names)):
        at = _names(bidders).index(name)
        _, weight, bid = bidders[at]
        # An equal strength is enough against those who stand later in the list.
        need = max([floor, *[rival + (1 if place < at else 0) for rival, place in behind]])
        raises[at] = max(0, (need + weight - 1) // weight - bid)
        behind = [(weight * (bid + raises[at]), at)]
    return tuple(raises)
