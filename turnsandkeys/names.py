"""Names and numbers, and the checks of them that many points share."""

from turnsandkeys.errors import BadCount, BadName, BadNumber, DoubledName, UnknownName

LETTERS = "abcdefghijklmnopqrstuvwxyz"
DIGITS = "0123456789"


def is_name(word):
    """True if the string is 1 to 8 letters from a to z."""
    return 1 <= len(word) <= 8 and all([sign in LETTERS for sign in word])


def read_number(word):
    """The integer that the string writes as a number, or None."""
    if not 1 <= len(word) <= 10 or not all([sign in DIGITS for sign in word]):
        return None
    if word[0] == "0" and word != "0":
        return None
    return int(word)


def check_size(size, low, high):
    """Refuse a number of items outside of a range."""
    if not low <= size <= high:
        raise BadCount(size)


def check_range(number, low, high):
    """Refuse a number outside of a range."""
    if not low <= number <= high:
        raise BadNumber(number)


def check_names(names, most, hook=False):
    """Check a list of 1 to `most` items as names; with `hook` the empty string is right, too."""
    check_size(len(names), 1, most)
    for at, name in enumerate(names):
        if not is_name(name) and not (hook and name == ""):
            raise BadName(name)
        if name in names[:at]:
            raise DoubledName(name)


def check_known(names, known):
    """Refuse the first name that is not among the known ones."""
    for name in names:
        if name not in known:
            raise UnknownName(name)


def check_picks(picks, known):
    """Refuse, from left to right, a pick that is unknown or stands further left."""
    for at, pick in enumerate(picks):
        if pick not in known:
            raise UnknownName(pick)
        if pick in picks[:at]:
            raise DoubledName(pick)


def arrangements(names, most):
    """All tuples of at most `most` different names, ordered as the tuples of their places."""
    found = [()]
    if most > 0:
        for at, name in enumerate(names):
            others = [*names[:at], *names[at + 1:]]
            found.extend([(name, *rest) for rest in arrangements(others, most - 1)])
    return found
