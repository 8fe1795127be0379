"""The text of a house."""


def write_house(house):
    """The text of the house, without a newline at its end."""
    lines = [_line("members", house.members)]
    for rule in house.rules:
        lines.extend(rule.lines())
    lines.extend([_page_line(page) for page in house.book])
    if house.book.home:
        lines.append(_line("home", house.book.home))
    lines.append(_line("begin", house.book.starts))
    lines.extend([_line("ballots", [str(many), *ballot]) for ballot, many in house.roll])
    return "\n".join(lines)


def _line(kind, words):
    return " ".join([kind, *words])


def _page_line(page):
    bids = [f"{member} {bid}" for member, bid in page.bids]
    return _line("page", [page.name, *bids, ">", *page.followers])
