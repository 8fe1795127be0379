"""Standings: what is so before a round."""

from turnsandkeys.errors import BadStanding, TooLarge

MOST_STANDINGS = 400


def is_standing(house, standing):
    """True if the tuple is a standing of the house."""
    page, rule, keeper, passes = standing
    if page not in house.book.names or rule not in house.names:
        return False
    if keeper != "" and (keeper not in house.members or house.rule(rule).is_barred(keeper)):
        return False
    return len(passes) == len(house.members) and all([0 <= number <= house.most for number in passes])


def check_standing(house, standing):
    """Refuse a tuple that is not a standing of the house."""
    if not is_standing(house, standing):
        raise BadStanding(standing)


def first_standings(house):
    """The standings with which the first round can begin."""
    passes = tuple([0] * len(house.members))
    return [(start, house.names[0], "", passes) for start in house.book.starts]


def moves(house, standing):
    """What the house can choose."""
    check_standing(house, standing)
    page, rule, keeper, _ = standing
    if keeper != "":
        return [""]
    return house.rule(rule).moves(house.book.page(page))


class Found:
    """Standings in the order in which they are found, each one once."""

    def __init__(self, firsts):
        self.sequence = []
        self._seen = {}
        self.note(firsts)

    def note(self, standings):
        """Put those that are new behind the others."""
        for standing in standings:
            if standing not in self._seen:
                self._seen[standing] = True
                self.sequence.append(standing)
        if len(self.sequence) > MOST_STANDINGS:
            raise TooLarge()
