"""Steps of habits: each one keeps some of those to whom the key could be lent."""

from turnsandkeys.errors import BadName
from turnsandkeys.names import check_range, is_name
from turnsandkeys.prices import greatest


class Step:
    """The base class of all steps."""


class Longest(Step):
    """Keeps those with the most passes."""

    def told(self):
        """The text of the step."""
        return "long"

    def kept(self, house, standing, members):
        """Those of the members whom the step keeps."""
        return _with_greatest(members, _passes(house, standing, members))


class Dearest(Step):
    """Keeps those with the greatest bid on the page."""

    def told(self):
        """The text of the step."""
        return "dear"

    def kept(self, house, standing, members):
        """Those of the members whom the step keeps."""
        bids = dict(house.book.page(standing[0]).bids)
        return _with_greatest(members, [bids[member] for member in members])


class Safest(Step):
    """Keeps those from whom it costs most to hand the key on to a barred member."""

    def told(self):
        """The text of the step."""
        return "safe"

    def kept(self, house, standing, members):
        """Those of the members whom the step keeps."""
        ruling = house.rule(standing[1])
        return _with_greatest(members, [ruling.barred_toll(member) for member in members])


class Over(Step):
    """Keeps those with at least so many passes, and all if there are none."""

    def __init__(self, number):
        check_range(number, 0, 3)
        self.number = number

    def told(self):
        """The text of the step."""
        return f"over {self.number}"

    def kept(self, house, standing, members):
        """Those of the members whom the step keeps."""
        waiting = _with_passes(house, standing, members, self.number)
        return waiting if waiting else members


class Wait(Over):
    """Keeps all if somebody has at least so many passes, and otherwise nobody."""

    def told(self):
        """The text of the step."""
        return f"wait {self.number}"

    def kept(self, house, standing, members):
        """Those of the members whom the step keeps."""
        waiting = _with_passes(house, standing, members, self.number)
        return members if waiting else []


class Without(Step):
    """Keeps those who have another name, and all if there are none."""

    def __init__(self, name):
        if not is_name(name):
            raise BadName(name)
        self.name = name

    def told(self):
        """The text of the step."""
        return f"not {self.name}"

    def kept(self, house, standing, members):
        """Those of the members whom the step keeps."""
        others = [member for member in members if member != self.name]
        return others if others else members


def _passes(house, standing, members):
    """The passes of these members."""
    passes = dict(zip(house.members, standing[3]))
    return [passes[member] for member in members]


def _with_passes(house, standing, members, number):
    """Those of the members who have at least so many passes."""
    return [member for member, many in zip(members, _passes(house, standing, members)) if many >= number]


def _with_greatest(members, worths):
    """The members whose worth is the greatest one, where None is greater than every integer."""
    highest = greatest(worths)
    return [member for member, worth in zip(members, worths) if worth == highest]
