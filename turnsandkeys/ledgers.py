"""Ledgers: the rounds of a desk as a table."""


def ledger(desk):
    """The table of all rounds that are done, as a string."""
    lines = [_line(["round", "page", "rule", "lent", "holder", "coins", "spent"])]
    spent = 0
    for number, (standing, move, deed, price) in enumerate(desk.log(), start=1):
        page, rule, _, _ = standing
        holder = "" if deed is None else deed[1]
        spent += price
        lines.append(_line([str(number), page, rule, _told(move), _told(holder), f"{price:,}", f"{spent:,}"]))
    if desk.fault_now is not None:
        lines.append(" ".join(desk.fault_now))
    return "\n".join(lines)


def _line(words):
    number, page, rule, move, holder, coins, spent = words
    return f"{number:>5} {page:<8} {rule:<8} {move:<8} {holder:<8} {coins:>15} {spent:>15}"


def _told(word):
    return "-" if word == "" else word
