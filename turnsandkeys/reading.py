"""Reading the text of a house."""

from turnsandkeys.errors import BadText, HouseError
from turnsandkeys.guests import Guests
from turnsandkeys.houses import House
from turnsandkeys.names import check_names, check_size, read_number
from turnsandkeys.pages import Book
from turnsandkeys.rolls import Roll
from turnsandkeys.rules import BidRule, TurnRule

# Which kinds of lines can stand behind a line of a kind; the first line stands behind "".
NEXT = {
    "": ("members",),
    "members": ("turn", "bid"),
    "turn": ("limit",),
    "bid": ("limit",),
    "limit": ("barred", "link", "deposit"),
    "barred": ("link", "deposit"),
    "link": ("link", "deposit"),
    "deposit": ("fee",),
    "fee": ("start",),
    "start": ("weights",),
    "weights": ("hours",),
    "hours": ("offer", "aside", "turn", "bid", "page"),
    "offer": ("offer", "aside"),
    "aside": ("turn", "bid", "page"),
    "page": ("page", "home", "begin"),
    "home": ("begin",),
    "begin": ("ballots",),
    "ballots": ("ballots",),
}

# How many words stand behind the first one, where that is always the same number.
SIZES = {
    "turn": 1, "bid": 1, "limit": 1, "link": 3, "deposit": 1, "fee": 1, "start": 1, "hours": 1, "offer": 2, "aside": 1,
}


class Draft:
    """What the lines that have been read say, all of them right."""

    def __init__(self):
        self.line = 0
        self.last_kind = ""
        self.members = []
        # The last rule is the one that is being read.
        self.rules = []
        self.offers = []
        self.pages = []
        self.page_lines = []
        self.home = []
        self.starts = []
        self.ballots = []


def read_house(text):
    """The house that the text writes."""
    draft = Draft()
    for line in text.split("\n"):
        draft.line += 1
        try:
            _read_line(draft, line.split(" "))
        except HouseError:
            raise BadText(draft.line) from None
    if not draft.starts:
        raise BadText(draft.line + 1)
    _check_followers(draft)
    return House(draft.rules, Book(draft.members, draft.pages, draft.starts, home=draft.home), draft.ballots)


def _read_line(draft, words):
    """Read a line; whatever is wrong with it raises an error of some kind."""
    kind = words[0]
    if kind not in _next_kinds(draft) or len(words) < 2:
        raise BadText(draft.line)
    if kind in SIZES:
        check_size(len(words) - 1, SIZES[kind], SIZES[kind])
    reader = READERS[kind]
    reader(draft, words[1:])
    draft.last_kind = kind


def _next_kinds(draft):
    if draft.last_kind == "start":
        rule = draft.rules[-1]
        # A TurnRule ends here, as a BidRule does behind its guests.
        return NEXT["aside"] if rule.KIND == "turn" else NEXT["start"]
    return NEXT[draft.last_kind]


def _check_followers(draft):
    names = [page[0] for page in draft.pages]
    for line, (_, _, followers) in zip(draft.page_lines, draft.pages):
        if not all([follower in names for follower in followers]):
            raise BadText(line)


def _number(draft, word):
    number = read_number(word)
    if number is None:
        raise BadText(draft.line)
    return number


def _members(draft, words):
    check_names(words, 4)
    draft.members = words


def _check_rule_name(draft, name):
    check_names([*[rule.name for rule in draft.rules], name], 3)


def _turn(draft, words):
    _check_rule_name(draft, words[0])
    draft.rules.append(TurnRule(words[0], draft.members))


def _bid(draft, words):
    _check_rule_name(draft, words[0])
    draft.rules.append(BidRule(words[0], draft.members))
    draft.offers = []


def _change(draft, **parts):
    """Change some parts of the rule that is being read, with the checks of its class."""
    rule = draft.rules[-1]
    draft.rules[-1] = rule.changed(**parts)


def _limit(draft, words):
    limit = None if words[0] == "none" else _number(draft, words[0])
    _change(draft, limit=limit)


def _barred(draft, words):
    _change(draft, barred=words)


def _link(draft, words):
    giver, taker, toll = words
    rule = draft.rules[-1]
    _change(draft, links=[*rule.links, (giver, taker, _number(draft, toll))])


def _deposit(draft, words):
    _change(draft, deposit=_number(draft, words[0]))


def _fee(draft, words):
    _change(draft, fee=_number(draft, words[0]))


def _start(draft, words):
    _change(draft, start=_number(draft, words[0]))


def _weights(draft, words):
    _change(draft, weights=[_number(draft, word) for word in words])


def _hours(draft, words):
    _change(draft, hours=_number(draft, words[0]))


def _offer(draft, words):
    charge, weight = words
    draft.offers.append((_number(draft, charge), _number(draft, weight)))
    # Whoever goes away is told only behind the offers, so some right number stands for it here.
    Guests(draft.offers, 1)


def _aside(draft, words):
    guests = Guests(draft.offers, _number(draft, words[0]))
    _change(draft, guests=guests)


def _page(draft, words):
    if ">" not in words:
        raise BadText(draft.line)
    end = words.index(">")
    bids, followers = words[1:end], words[end + 1:]
    if len(bids) % 2 == 1:
        raise BadText(draft.line)
    if followers:
        check_names(followers, len(followers))
    pairs = [(member, _number(draft, bid)) for member, bid in zip(bids[::2], bids[1::2])]
    draft.pages.append((words[0], pairs, followers))
    draft.page_lines.append(draft.line)
    _check_book(draft, [words[0]], [])


def _home(draft, words):
    _check_book(draft, words, words)
    draft.home = words


def _begin(draft, words):
    _check_book(draft, words, [])
    draft.starts = words


def _check_book(draft, starts, home):
    """Check the pages so far without their followers, which can stand below them."""
    Book(draft.members, [(name, bids, ()) for name, bids, _ in draft.pages], starts, home=home)


def _ballots(draft, words):
    row = (tuple(words[1:]), _number(draft, words[0]))
    Roll([rule.name for rule in draft.rules], [row])
    draft.ballots.append(row)


READERS = {
    "members": _members,
    "turn": _turn,
    "bid": _bid,
    "limit": _limit,
    "barred": _barred,
    "link": _link,
    "deposit": _deposit,
    "fee": _fee,
    "start": _start,
    "weights": _weights,
    "hours": _hours,
    "offer": _offer,
    "aside": _aside,
    "page": _page,
    "home": _home,
    "begin": _begin,
    "ballots": _ballots,
}
