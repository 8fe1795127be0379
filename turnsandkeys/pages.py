"""Books of pages, along which the rounds of a house walk."""

from turnsandkeys.errors import BadBook, UnknownPage
from turnsandkeys.names import check_names, check_range, is_name


def _are_picks(picks, known):
    """True if the picks are all known and all different."""
    return all([pick in known for pick in picks]) and len(set(picks)) == len(picks)


def _are_bids(bids, members):
    return _are_picks([member for member, _ in bids], members) and all([0 <= bid <= 10 ** 9 for _, bid in bids])


def _check_pages(members, pages):
    if not 1 <= len(pages) <= 4:
        raise BadBook("pages", 0)
    names = [page[0] for page in pages]
    for at, (name, bids, _) in enumerate(pages):
        if not is_name(name) or name in names[:at] or not _are_bids(bids, members):
            raise BadBook("page", at)
    for at, (_, _, followers) in enumerate(pages):
        if not _are_picks(followers, names):
            raise BadBook("followers", at)


def _check_ends(names, starts, home):
    if len(starts) == 0 or not _are_picks(starts, names):
        raise BadBook("starts", 0)
    if not _are_picks(home, names):
        raise BadBook("home", 0)


class Page:
    """A page of a book: who wishes for the key, and which pages can follow."""

    def __init__(self, name, bids, followers, home):
        self.name = name
        self.bids = tuple(bids)
        self.wishers = tuple([member for member, _ in self.bids])
        self.followers = tuple(followers)
        self.home = home


class Book:
    """The pages that can come, of which nobody knows the walk ahead."""

    def __init__(self, members, pages, starts, *, home=()):
        check_names(members, 4)
        _check_pages(members, pages)
        self.members = tuple(members)
        self.names = tuple([page[0] for page in pages])
        _check_ends(self.names, starts, home)
        self.starts = tuple(starts)
        self.home = tuple([name for name in self.names if name in home])
        self._rows = tuple([
            (name, _sorted_bids(members, bids), tuple(followers)) for name, bids, followers in pages
        ])
        self._pages = tuple([
            Page(name, bids, followers, name in self.home) for name, bids, followers in self._rows
        ])

    def __len__(self):
        return len(self._pages)

    def __iter__(self):
        return iter(self._pages)

    def __eq__(self, other):
        return (
            isinstance(other, Book) and self.members == other.members and self.starts == other.starts
            and self.home == other.home and self._rows == other._rows
        )

    def page(self, name):
        """The Page with this name."""
        if name not in self.names:
            raise UnknownPage(name)
        return self._pages[self.names.index(name)]

    def is_walk(self, names):
        """True if the first page is a start and each other one follows the one before it."""
        nexts = self.starts
        for name in names:
            if name not in nexts:
                return False
            nexts = self.page(name).followers
        return True

    def walks(self, rounds):
        """Each walk of exactly so many pages, in order."""
        # The walks that are still to be looked at, the next one last.
        stack = [[]]
        while stack:
            walk = stack.pop()
            if len(walk) == rounds:
                yield walk
            elif len(walk) < rounds:
                nexts = self.page(walk[-1]).followers if walk else self.starts
                stack.extend([[*walk, name] for name in reversed(list(nexts))])

    def count_walks(self, rounds):
        """The number of the walks of exactly so many pages."""
        check_range(rounds, 0, 200)
        if rounds == 0:
            return 1
        # For each page the number of the walks that begin with it: first those of one page.
        many = {name: 1 for name in self.names}
        for _ in range(rounds - 1):
            many = {page.name: sum([many[name] for name in page.followers]) for page in self._pages}
        return sum([many[name] for name in self.starts])


def _sorted_bids(members, bids):
    """The bids as a tuple of pairs in the order of the members."""
    return tuple([(member, bid) for member in members for bidder, bid in bids if bidder == member])
