"""Told rows: the few tell ahead what they do."""

from turnsandkeys.errors import BadRow
from turnsandkeys.passes import first_over, next_passes, passed_over


class ToldRounds:
    """What can come of the told rounds of a house.

    A pair is what is so before a round: the keeper, who can be the empty string, and the passes.
    """

    def __init__(self, house):
        self.house = house
        # What has been reckoned already, as the same rounds come again and again.
        self._lets = {}
        self._ways = {}

    def beginning(self):
        """The pair before the first round."""
        return ("", tuple([0] * len(self.house.members)))

    def ways_of(self, page, rule, late, pair):
        """The pairs of a move and the pair after it, for all moves with which the round keeps all promises."""
        key = (page, rule, late, pair)
        if key not in self._ways:
            self._ways[key] = self._reckoned(page, rule, late, pair)
        return self._ways[key]

    def _reckoned(self, page, rule, late, pair):
        keeper, passes = pair
        members, leaf, ruling = self.house.members, self.house.book.page(page), self.house.rule(rule)
        if keeper in ruling.barred:
            return []
        candidates = ruling.candidates(leaf)
        lets = self._free_lets(page, rule) if keeper == "" else [("", ())]
        found = []
        for move, takers in lets:
            passed = passed_over(candidates, takers, keeper)
            if first_over(members, passes, passed, ruling.limit) is None:
                holder = takers[-1] if takers else keeper
                after = next_passes(members, passes, candidates, takers, keeper, self.house.most)
                found.append((move, (holder if late and not leaf.home else "", after)))
        return found

    def _free_lets(self, page, rule):
        """The pairs of a move and the takers who get the key then if the few pay nothing."""
        if (page, rule) not in self._lets:
            leaf, ruling = self.house.book.page(page), self.house.rule(rule)
            self._lets[page, rule] = [
                (move, takers)
                for move in ruling.moves(leaf)
                for takers, price in ruling.lets(leaf, move)
                if price == 0
            ]
        return self._lets[page, rule]


def lendings(house, row):
    """The first list of moves with which no promise is broken along the row, None if there is none."""
    layers = _layers(house, row)
    if len(layers) <= len(row):
        return None
    picks = []
    pair = ToldRounds(house).beginning()
    for layer in _lasting_layers(layers)[:-1]:
        move, pair = layer[pair][0]
        picks.append(move)
    return picks


def lasting(house, row):
    """The greatest number of rounds through which some moves keep all promises."""
    return len(_layers(house, row)) - 1


def row_price(house, row):
    """What the row costs: the deposits of late rounds, and the votes."""
    _check_row(house, row)
    names = [rule for _, rule, _ in row]
    deposits = [
        house.rule(rule).deposit for page, rule, late in row if late and not house.book.page(page).home
    ]
    votes = [house.vote_price(rule, other) for rule, other in zip(names, names[1:])]
    return sum(deposits) + sum(votes)


def _check_row(house, row):
    pages, names = house.book.starts, house.names[:1]
    for place, (page, rule, _) in enumerate(row):
        if page not in pages or rule not in names:
            raise BadRow(place)
        pages, names = house.book.page(page).followers, house.names


def _layers(house, row):
    """For each round as long as promises can be kept a dict with the ways of each pair before it.

    Behind the last round that keeps them stands a dict of the pairs after it, without ways.
    """
    _check_row(house, row)
    rounds = ToldRounds(house)
    layers = []
    pairs = [rounds.beginning()]
    for page, rule, late in row:
        layer = {pair: rounds.ways_of(page, rule, late, pair) for pair in pairs}
        afters = {after: True for told in layer.values() for _, after in told}
        if not afters:
            break
        layers.append(layer)
        pairs = list(afters)
    return [*layers, {pair: [] for pair in pairs}]


def _lasting_layers(layers):
    """The layers with only those pairs and ways that lead to the end of the row."""
    kept = [layers[-1]]
    for layer in reversed(list(layers[:-1])):
        ways = {pair: [way for way in told if way[1] in kept[0]] for pair, told in layer.items()}
        kept = [{pair: told for pair, told in ways.items() if told}, *kept]
    return kept
