"""The errors of the program.

Messages leave numbers out: Python refuses to write very long ones, and an error
that cannot be made would hide the fault that it tells. The attributes have them.
"""


class HouseError(ValueError):
    """The base class of all errors of the program."""


class Refused(HouseError):
    """The base class of what a desk refuses."""


class BadName(HouseError):
    """Something that is not a name stands where a name must stand."""

    def __init__(self, name):
        super().__init__(f"{name!r} is not a name")
        self.name = name


class DoubledName(HouseError):
    """A name stands twice where it can stand once."""

    def __init__(self, name):
        super().__init__(f"{name!r} stands twice")
        self.name = name


class UnknownName(HouseError):
    """A name is not one of those that are known here."""

    def __init__(self, name):
        super().__init__(f"{name!r} is not known here")
        self.name = name


class UnknownPage(HouseError):
    """A book has no page of this name."""

    def __init__(self, name):
        super().__init__(f"there is no page {name!r}")
        self.name = name


class BadNumber(HouseError):
    """A number is not in its range."""

    def __init__(self, number):
        super().__init__("a number is not in its range")
        self.number = number


class BadCount(HouseError):
    """A list has too few or too many items."""

    def __init__(self, size):
        super().__init__("a list has a wrong number of items")
        self.size = size


class OtherNames(HouseError):
    """Two things that belong together do not have the same names in the same order."""


class NoLink(HouseError):
    """No link has this number."""

    def __init__(self, number):
        super().__init__("no link has this number")
        self.number = number


class BadLot(HouseError):
    """A tuple is not a lot of the offers."""

    def __init__(self, lot):
        super().__init__("this is not a lot of the offers")
        self.lot = lot


class BadBook(HouseError):
    """A part of a book is wrong."""

    def __init__(self, part, place):
        super().__init__(f"wrong in the book: {part}")
        self.part = part
        self.place = place


class BadText(HouseError):
    """A line of the text of a house is wrong."""

    def __init__(self, line):
        super().__init__("a line of the text is wrong")
        self.line = line


class BadStanding(HouseError):
    """A tuple is not a standing."""

    def __init__(self, standing):
        super().__init__("this is not a standing here")
        self.standing = standing


class NoMove(HouseError):
    """The house cannot make this move."""

    def __init__(self, move):
        super().__init__(f"{move!r} is not a move here")
        self.move = move


class NoDeed(HouseError):
    """The few cannot do this deed."""

    def __init__(self, deed):
        super().__init__("this deed is not possible")
        self.deed = deed


class TooLarge(HouseError):
    """There is more to look at than the program looks at."""


class BadTable(HouseError):
    """A row of a table is wrong."""

    def __init__(self, place, why):
        super().__init__(f"wrong in the table: {why}")
        self.place = place
        self.why = why


class BadPlan(HouseError):
    """A row of a plan is wrong."""

    def __init__(self, place, why):
        super().__init__(f"wrong in the plan: {why}")
        self.place = place
        self.why = why


class NotFull(HouseError):
    """A house is not full."""


class BadStep(HouseError):
    """A part of a text is not a step of a habit."""

    def __init__(self, place):
        super().__init__("a part of the text is not a step")
        self.place = place


class BadRow(HouseError):
    """A round of a told row is wrong."""

    def __init__(self, place):
        super().__init__("a told round is wrong")
        self.place = place


class BadHolding(HouseError):
    """A round of a holding is wrong."""

    def __init__(self, place):
        super().__init__("a round of the holding is wrong")
        self.place = place


class BadCommand(HouseError):
    """A line of a script is wrong."""

    def __init__(self, line):
        super().__init__("a line of the script is wrong")
        self.line = line


class DeskOver(Refused):
    """The desk is over."""


class MoveWaits(Refused):
    """A move is made already and waits for its deed."""


class NoMoveWaits(Refused):
    """No move is made that could be followed by a deed."""


class PagesFollow(Refused):
    """The walk cannot end here, as pages follow."""


class NothingToUndo(Refused):
    """No step can be taken back."""


class NothingToRedo(Refused):
    """No step can be done again."""
