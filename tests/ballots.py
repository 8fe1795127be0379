"""Random rolls, and a count ballot by ballot, as the document says it."""

import itertools

from turnsandkeys.rolls import Roll


def all_ballots(options):
    return [ballot for size in range(len(options) + 1) for ballot in itertools.permutations(options, size)]


def all_orders(options):
    return [order for order in all_ballots(options) if len(order) < len(options)]


def some_roll(chance, options, most=4, worth=3):
    ballots = [chance.choice(all_ballots(options)) for _ in range(chance.randint(0, most))]
    return Roll(options, [(ballot, chance.randint(0, worth)) for ballot in ballots])


def some_options(chance, most=4):
    options = ["day", "sale", "rest", "turn"]
    chance.shuffle(options)
    return options[: chance.randint(1, most)]


def table_by_hand(roll):
    """The table of a count in which every single ballot is looked at by itself."""
    single = [ballot for ballot, many in roll for _ in range(many)]
    remaining = list(roll.options)
    rows = []
    while remaining:
        piles = {option: 0 for option in remaining}
        spent = 0
        for ballot in single:
            wanted = [option for option in ballot if option in remaining]
            if wanted:
                piles[wanted[0]] += 1
            else:
                spent += 1
        leaver = None
        if len(remaining) > 1:
            for option in remaining:
                if leaver is None or piles[option] <= piles[leaver]:
                    leaver = option
        rows.append((tuple(remaining), tuple(piles[option] for option in remaining), spent, leaver))
        if leaver is None:
            return tuple(rows)
        remaining.remove(leaver)
    return tuple(rows)


def order_by_hand(roll):
    return tuple(row[3] for row in table_by_hand(roll)[:-1])


def rolls_of_size(options, size):
    """All rolls of so many ballots."""
    for ballots in itertools.combinations_with_replacement(all_ballots(options), size):
        yield Roll.of(options, *ballots)
