"""Random books, rules and houses, and small ones that many tests use."""

from ballots import all_ballots
from turnsandkeys.guests import Guests
from turnsandkeys.houses import House
from turnsandkeys.pages import Book
from turnsandkeys.rules import BidRule, TurnRule

# Some of these are words of the text of a house, and some are names of members, rules and pages alike.
NAMES = ["ann", "limit", "none", "page", "begin", "ben", "turn", "deposit", "aside", "z"]


def some_names(chance, most, fewest=1):
    return chance.sample(NAMES, chance.randint(fewest, most))


def some_guests(chance, offers=4, charge=9, weight=4):
    pairs = [(chance.randint(0, charge), chance.randint(1, weight)) for _ in range(chance.randint(0, offers))]
    return Guests(pairs, chance.randint(1, weight))


def some_pages(chance, members, most=3, bid=4, ends=0.2):
    names = some_names(chance, most)
    pages = []
    for name in names:
        wishers = chance.sample(members, chance.randint(0, len(members)))
        followers = [] if chance.random() < ends else chance.sample(names, chance.randint(1, len(names)))
        pages.append((name, [(member, chance.randint(0, bid)) for member in wishers], followers))
    return names, pages


def some_book(chance, members, most=3, bid=4, ends=0.2):
    names, pages = some_pages(chance, members, most, bid, ends)
    starts = chance.sample(names, chance.randint(1, len(names)))
    home = [name for name in names if chance.random() < 0.2]
    chance.shuffle(home)
    return Book(members, pages, starts, home=home)


def some_links(chance, members, most=4, toll=4):
    if len(members) < 2:
        return []
    return [(*chance.sample(members, 2), chance.randint(0, toll)) for _ in range(chance.randint(0, most))]


def some_parts(chance, members, worth=4):
    """Arguments by keyword for both kinds of rules."""
    return {
        "limit": chance.choice([None, 0, 1, 2]),
        "barred": [member for member in members if chance.random() < 0.2],
        "links": some_links(chance, members, toll=worth),
        "deposit": chance.randint(0, worth),
        "fee": chance.randint(0, worth),
        "start": chance.randint(0, 3),
    }


def some_rule(chance, name, members, worth=4):
    parts = some_parts(chance, members, worth)
    if chance.random() < 0.6:
        return TurnRule(name, members, **parts)
    return BidRule(
        name, members, weights=chance.choice([None, [chance.randint(1, 3) for _ in members]]),
        hours=chance.randint(1, 3), guests=chance.choice([None, some_guests(chance)]), **parts
    )


def some_house(chance, members=3, rules=3, pages=3, worth=4):
    names = some_names(chance, members)
    made = [some_rule(chance, name, names, worth) for name in some_names(chance, rules)]
    options = [rule.name for rule in made]
    ballots = [(chance.choice(all_ballots(options)), chance.randint(0, 3)) for _ in range(chance.randint(0, 4))]
    return House(made, some_book(chance, names, pages, worth), ballots)


def day_book(**parts):
    """One page, on which both wish and which follows itself."""
    return Book(["ann", "ben"], [("mon", [("ann", 0), ("ben", 0)], ["mon"])], ["mon"], **parts)
