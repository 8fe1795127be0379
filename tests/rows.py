"""Told rows gone along as the document says them, and barren rows found among all rows."""


def lent_by_hand(house, told, keeper, passes):
    """The pairs of a move and the keeper and passes after a told round, for all moves that keep all promises."""
    page, rule, late = told
    leaf, ruling = house.book.page(page), house.rule(rule)
    if keeper and ruling.is_barred(keeper):
        return []
    wishing = [member for member in house.members if member in dict(leaf.bids) and member not in ruling.barred]
    if keeper:
        lets = [("", ())]
    elif ruling.KIND == "turn":
        lets = [*[(member, (member,)) for member in wishing], ("", ())]
    else:
        lets = [("", takers) for takers, price in ruling.lets(leaf, "") if price == 0]
    found = []
    for move, takers in lets:
        after = dict(zip(house.members, passes))
        broken = False
        for member in house.members:
            if member in takers or member == keeper:
                after[member] = 0
            elif member in wishing:
                broken = broken or (ruling.limit is not None and after[member] >= ruling.limit)
                after[member] = min(after[member] + 1, house.most)
        last = keeper or "".join(takers[-1:])
        if not broken:
            found.append((move, (last if late and not leaf.home else "", tuple(after.values()))))
    return found


def all_lendings(house, row):
    """All lists of moves that keep all promises along the row, or along its first rounds, in their order."""
    level = [([], ("", (0,) * len(house.members)))]
    levels = [level]
    for told in row:
        level = [
            ([*picks, move], after) for picks, pair in level for move, after in lent_by_hand(house, told, *pair)
        ]
        levels.append(level)
    return [[picks for picks, _ in level] for level in levels]


def some_row(chance, house, size):
    """A row of at most so many rounds, fewer if the walk ends."""
    row = []
    pages, names = house.book.starts, house.names[:1]
    while len(row) < size and pages:
        row.append((chance.choice(pages), chance.choice(names), chance.random() < 0.5))
        pages, names = house.book.page(row[-1][0]).followers, house.names
    return row


def pairs_along(house, told, pairs):
    """The keepers and passes to which some moves lead without a fault."""
    return {after for keeper, passes in pairs for _, after in lent_by_hand(house, told, keeper, passes)}


def barren_by_hand(house, most):
    """The first of the shortest barren rows, found among all rows, and None if there is none."""
    level = [([], {("", (0,) * len(house.members))})]
    for size in range(most):
        longer = []
        for row, pairs in level:
            pages = house.book.page(row[-1][0]).followers if row else house.book.starts
            names = house.names if row else house.names[:1]
            for page in pages:
                for rule in names:
                    for late in (False, True):
                        told = [*row, (page, rule, late)]
                        after = pairs_along(house, told[-1], pairs)
                        if not after:
                            return told
                        longer.append((told, after))
        level = longer
    return None


def knots_by_hand(house, most):
    """All knots with fewer rounds before them, in the order in which they are found, without a bound.

    The list ends with the knot at which a barren row is found, and then the second item is True.
    """
    found = [(start, house.names[0], frozenset([("", (0,) * len(house.members))])) for start in house.book.starts]
    depths = {knot: 0 for knot in found}
    for at, knot in enumerate(found):
        page, rule, pairs = knot
        for late in (False, True):
            after = pairs_along(house, (page, rule, late), pairs)
            if not after:
                return found[:at + 1], True
            for follower in house.book.page(page).followers:
                for other in house.rules:
                    fresh = (follower, other.name, frozenset(pair for pair in after if pair[0] not in other.barred))
                    if fresh not in depths and depths[knot] + 1 < most:
                        depths[fresh] = depths[knot] + 1
                        found.append(fresh)
    return found, False
