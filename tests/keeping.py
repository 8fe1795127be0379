"""Holdings along told rounds, all of them, as the document says them."""

import itertools


def least(prices):
    return min([price for price in prices if price is not None], default=None)


def all_takers(house):
    return [takers for size in range(4) for takers in itertools.permutations(house.members, size)]


def taking_price(house, told, before, takers):
    """The price of the takers in a round with this keeper before it, None if they cannot be had."""
    page, rule = told
    leaf, ruling = house.book.page(page), house.rule(rule)
    if before:
        return 0 if takers == () and before not in ruling.barred else None
    pairs = [pair for move in ruling.moves(leaf) for pair in ruling.lets(leaf, move)]
    return least([price for others, price in pairs if others == takers])


def round_price(house, told, before, takers, keeper):
    """The price of a round of a holding, None if it is not possible."""
    page, rule = told
    leaf, ruling = house.book.page(page), house.rule(rule)
    price = taking_price(house, told, before, takers)
    if price is None or keeper == "":
        return price
    last = before or "".join(takers[-1:])
    if not last or leaf.home or keeper not in house.members or keeper in ruling.barred:
        return None
    toll = ruling.hand_toll(last, keeper)
    return None if toll is None else price + toll + ruling.deposit


def all_holdings(house, rounds):
    """All holdings along the rounds with their prices."""
    found = [([], 0)]
    for told in rounds:
        longer = []
        for holding, price in found:
            before = holding[-1][1] if holding else ""
            for takers in all_takers(house):
                for keeper in ["", *house.members]:
                    more = round_price(house, told, before, takers, keeper)
                    if more is not None:
                        longer.append(([*holding, (takers, keeper)], price + more))
        found = longer
    return found


def keeper_prices_by_hand(house, rounds):
    """The least prices behind all rounds, found among all holdings."""
    found = all_holdings(house, rounds)
    return [
        least([price for holding, price in found if (holding[-1][1] if holding else "") == spot])
        for spot in ["", *house.members]
    ]


def holder_price_by_hand(house, rounds, member):
    """The least price for which the member has the key at some time in the last round."""
    prices = []
    told = rounds[-1]
    ruling = house.rule(told[1])
    for holding, price in all_holdings(house, rounds[:-1]):
        before = holding[-1][1] if holding else ""
        if before == member:
            prices.append(price)
        elif before == "" or before not in ruling.barred:
            for takers in all_takers(house):
                more = taking_price(house, told, before, takers)
                last = before or "".join(takers[-1:])
                if more is not None and member in takers:
                    prices.append(price + more)
                if more is not None and last and ruling.hand_toll(last, member) is not None:
                    prices.append(price + more + ruling.hand_toll(last, member))
    return least(prices)


def some_rounds(chance, house, size):
    return [(chance.choice(house.book.names), chance.choice(house.names)) for _ in range(size)]
