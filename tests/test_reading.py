"""Reading the text of a house [33, 34]."""

import random
import unittest

from helpers import Case
from making import some_house
from test_writing import TEXT, full_house
from turnsandkeys.errors import BadText
from turnsandkeys.guests import Guests
from turnsandkeys.houses import House
from turnsandkeys.pages import Book
from turnsandkeys.reading import read_house
from turnsandkeys.rolls import Roll
from turnsandkeys.rules import BidRule, TurnRule
from turnsandkeys.writing import write_house

# Every kind of line, among them a TurnRule that ends before a BidRule and before a page.
LINES = """members ben ann cid
turn day
limit 2
barred cid ann
link ben ann 4
link ann cid 0
deposit 7
fee 2
start 1000000000
bid sale
limit none
barred ann
link cid ben 9
deposit 0
fee 1
start 0
weights 1 20 1000
hours 3
offer 10 2
offer 0 1
aside 4
turn rest
limit none
deposit 0
fee 1
start 0
page mon ben 10 ann 0 > tue mon
page tue >
page wed cid 5 > tue
home wed mon
begin tue mon
ballots 3
ballots 4 day
ballots 1000000000 sale day""".split("\n")
BEGIN = LINES.index("begin tue mon")


def place_of(start):
    """The index of the first line that begins so."""
    return [at for at, line in enumerate(LINES) if line.startswith(start)][0]


def text_with(at, *lines):
    """The text in which these lines stand in the place of one line."""
    return "\n".join([*LINES[:at], *lines, *LINES[at + 1:]])


class RightTest(Case):
    def test_every_kind_of_line(self):
        self.has_parameters(read_house, "text")
        members = ["ben", "ann", "cid"]
        day = TurnRule(
            "day", members, limit=2, barred=["cid", "ann"], links=[("ben", "ann", 4), ("ann", "cid", 0)],
            deposit=7, fee=2, start=10 ** 9,
        )
        sale = BidRule(
            "sale", members, barred=["ann"], links=[("cid", "ben", 9)], weights=[1, 20, 1000], hours=3,
            guests=Guests([(10, 2), (0, 1)], 4),
        )
        pages = [("mon", [("ben", 10), ("ann", 0)], ["tue", "mon"]), ("tue", [], []), ("wed", [("cid", 5)], ["tue"])]
        book = Book(members, pages, ["tue", "mon"], home=["wed", "mon"])
        rows = [((), 3), (("day",), 4), (("sale", "day"), 10 ** 9)]
        expected = House([day, sale, TurnRule("rest", members)], book, rows)
        self.assertEqual(read_house("\n".join(LINES)), expected)
        self.assertIs(type(read_house(text="\n".join(LINES))), House)

    def test_least_text(self):
        text = "members ann\nturn day\nlimit none\ndeposit 0\nfee 1\nstart 0\npage mon >\nbegin mon"
        self.assertEqual(read_house(text), House([TurnRule("day", ["ann"])], Book(["ann"], [("mon", [], [])], ["mon"])))

    def test_written_houses(self):
        chance = random.Random(330)
        for _ in range(150):
            house = some_house(chance, members=4, rules=3, pages=4, worth=chance.choice([4, 10 ** 9]))
            text = write_house(house)
            self.assertEqual(read_house(text), house)
            self.assertEqual(write_house(read_house(text)), text)

    def test_written_house_with_great_counts(self):
        house = full_house()
        self.fails(BadText, {"line": len(TEXT.split("\n"))}, read_house, TEXT)
        small = House(house.rules, house.book, [(("sale", "day"), 10 ** 9)])
        self.assertEqual(read_house(write_house(small)), small)

    def test_free_orders(self):
        chance = random.Random(331)
        house = read_house("\n".join(LINES))
        changes = {
            "barred cid ann": "barred ann cid",
            "home wed mon": "home mon wed",
            "page mon ben 10 ann 0 > tue mon": "page mon ann 0 ben 10 > tue mon",
        }
        self.assertEqual(read_house("\n".join([changes.get(line, line) for line in LINES])), house)
        for _ in range(5):
            ballots = LINES[BEGIN + 1:]
            chance.shuffle(ballots)
            self.assertEqual(read_house("\n".join([*LINES[:BEGIN + 1], *ballots])), house)

    def test_orders_that_are_not_free(self):
        house = read_house("\n".join(LINES))
        swapped = text_with(BEGIN, "begin mon tue")
        self.assertEqual(read_house(swapped).book.starts, ("mon", "tue"))
        self.assertNotEqual(read_house(swapped), house)
        links = [*LINES[:4], LINES[5], LINES[4], *LINES[6:]]
        self.assertEqual(read_house("\n".join(links)).rule("day").links.links, (("ann", "cid", 0), ("ben", "ann", 4)))

    def test_several_ballots_lines(self):
        more = ["ballots 0", "ballots 5 day", "ballots 0 rest", "ballots 1000000000 sale day"]
        house = read_house("\n".join([*LINES, *more]))
        expected = [((), 3), (("day",), 9), (("sale", "day"), 2 * 10 ** 9)]
        self.assertEqual(house.roll, Roll(house.names, [*expected[:2], (("sale", "day"), 10 ** 9), (("sale", "day"), 10 ** 9)]))
        self.assertEqual(list(house.roll), expected)

    def test_words_of_the_text_as_names(self):
        text = "\n".join([
            "members none limit", "turn limit", "limit none", "barred none", "link limit none 0", "deposit 0", "fee 1", "start 0",
            "bid none", "limit 0", "deposit 0", "fee 1", "start 0", "weights 1 1", "hours 1", "aside 1",
            "page page none 3 > begin", "page begin limit 1 none 2 > page begin", "home begin", "begin page", "ballots 2 none limit",
        ])
        house = read_house(text)
        self.assertEqual((house.members, house.names, house.book.names), (("none", "limit"), ("limit", "none"), ("page", "begin")))
        self.assertEqual(house.rule("none").guests, Guests([], 1))
        self.assertEqual(write_house(house), text.replace("limit 1 none 2", "none 2 limit 1"))


class WrongTest(Case):
    def wrong(self, line, text):
        self.fails(BadText, {"line": line}, read_house, text)

    def replaced(self, start, *lines):
        """Each of these lines is wrong in the place of the first line that begins so."""
        at = place_of(start)
        for line in lines:
            self.wrong(at + 1, text_with(at, line))

    def test_blanks(self):
        for at, line in enumerate(LINES):
            for wrong in ("", " ", line + " ", " " + line, line.replace(" ", "  ", 1), line[: line.rfind(" ")] + " " + line[line.rfind(" "):]):
                self.wrong(at + 1, text_with(at, wrong))
            self.wrong(at + 1, text_with(at, "", line))

    def test_kinds(self):
        for at, line in enumerate(LINES):
            for wrong in ("x", "x 1", line[0].upper() + line[1:], line.replace(" ", "", 1), line.split(" ")[0]):
                self.wrong(at + 1, text_with(at, wrong))

    def test_kinds_that_cannot_stand_there(self):
        # For each line all first words that can stand in its place; nothing else can.
        free = {
            "barred": ["barred", "link", "deposit"], "link": ["link", "deposit"], "offer": ["offer", "aside"],
            "page": ["turn", "bid", "page", "home", "begin"], "home": ["page", "home", "begin"],
            "begin": ["begin"], "ballots": ["ballots"],
        }
        after = {"aside": ["aside"], "turn": ["turn", "bid", "page"], "bid": ["turn", "bid", "page"]}
        for at, line in enumerate(LINES):
            kind = line.split(" ")[0]
            allowed = {kind, *free.get(kind, []), *after.get(kind, [])}
            if LINES[at - 1].startswith("limit"):
                allowed |= {"barred", "link", "deposit"}
            if LINES[at - 1].startswith(("barred", "link")):
                allowed |= {"link", "deposit"}
            if LINES[at - 1].startswith("hours"):
                allowed |= {"offer", "aside", "turn", "bid", "page"}
            if LINES[at - 1].startswith("offer"):
                allowed |= {"offer", "aside"}
            if LINES[at - 1].startswith("page"):
                allowed |= {"page", "home", "begin"}
            for other in LINES:
                if other.split(" ")[0] not in allowed:
                    self.wrong(at + 1, text_with(at, other))

    def test_doubled_and_left_out_lines(self):
        often = ("link", "offer", "page", "ballots")
        rare = ("barred", "home", *often)
        for at, line in enumerate(LINES):
            kind = line.split(" ")[0]
            if kind not in often:
                self.wrong(at + 2, text_with(at, line, line))
            if kind not in rare:
                self.wrong(at + 1 if at < len(LINES) - 1 else at, text_with(at))

    def test_text_that_ends_too_early(self):
        for size in range(1, BEGIN + 1):
            self.wrong(size + 1, "\n".join(LINES[:size]))
        for size in range(BEGIN + 1, len(LINES) + 1):
            self.assertEqual(read_house("\n".join(LINES[:size])).names, ("day", "sale", "rest"))
        self.wrong(1, "")
        self.wrong(1, "\n")
        self.wrong(len(LINES) + 1, "\n".join(LINES) + "\n")

    def test_wrong_numbers(self):
        numbers = {
            "limit 2": "limit {}", "link ben ann": "link ben ann {}", "deposit 7": "deposit {}", "fee 2": "fee {}",
            "start 1000000000": "start {}", "weights": "weights 1 {} 1", "hours": "hours {}", "offer 10": "offer {} 2",
            "offer 0": "offer 0 {}", "aside": "aside {}", "page mon": "page mon ben {} ann 0 > tue mon", "ballots 4": "ballots {} day",
        }
        words = ["01", "00", "+1", "-1", "-0", "1.0", "1a", "a", "0x1", "1e3", "1,0", "1_0", "0" * 11, "1" * 11, "9" * 400, "9" * 5000, "1" * 10]
        for start, form in numbers.items():
            for word in words:
                self.replaced(start, form.format(word))
        for start in ("deposit 7", "fee 2", "start 1000000000", "ballots 4"):
            form = numbers[start]
            at = place_of(start)
            self.assertTrue(read_house(text_with(at, form.format(10 ** 9))))
            self.assertTrue(read_house(text_with(at, form.format(0))))
            self.replaced(start, form.format(10 ** 9 + 1))

    def test_members(self):
        self.replaced("members", "members", "members ben ann cid ben", "members Ben", "members ben a1", "members a b c d e", "members ninechars")

    def test_turn_and_bid(self):
        for start in ("turn day", "bid sale"):
            kind = start.split(" ")[0]
            self.replaced(start, kind, f"{kind} day x", f"{kind} Day", f"{kind} 1", f"{kind} ninechars", f"{kind} day-a")
        self.replaced("bid sale", "bid day")
        self.replaced("turn rest", "turn day", "turn sale")
        for kind in ("turn", "bid"):
            self.wrong(place_of("page mon") + 1, text_with(place_of("page mon"), f"{kind} other", *LINES[22:26]))

    def test_limit(self):
        self.replaced("limit 2", "limit", "limit 4", "limit 2 2", "limit None", "limit none none", "limit nothing")
        for limit in ("0", "3", "none"):
            self.assertTrue(read_house(text_with(place_of("limit 2"), f"limit {limit}")))

    def test_barred(self):
        self.replaced("barred", "barred", "barred dan", "barred ann ann", "barred ann cid ann", "barred day", "barred none")

    def test_links(self):
        self.replaced(
            "link ben ann", "link ben ann", "link ben ann 4 4", "link ben 4", "link ben dan 4", "link dan ben 4", "link ben ben 4",
            "link ben ann 1000000001", "link 4 ben ann",
        )
        at = place_of("link ben ann")
        eleven = ["link ben ann 1"] * 11
        self.assertEqual(len(read_house(text_with(at, *eleven)).rule("day").links), 12)
        self.wrong(at + 13, text_with(at, *eleven, "link ben ann 1"))

    def test_coins(self):
        for start in ("deposit", "fee", "start"):
            self.replaced(start, start, f"{start} 1 1", f"{start} none", f"{start} ann")

    def test_weights_and_hours(self):
        self.replaced("weights", "weights", "weights 1 1", "weights 1 1 1 1", "weights 0 1 1", "weights 1 1 1001", "weights 1 ann 1")
        self.replaced("hours", "hours", "hours 0", "hours 4", "hours 1 1", "hours none")
        for hours in (1, 2, 3):
            self.assertEqual(read_house(text_with(place_of("hours"), f"hours {hours}")).rule("sale").hours, hours)

    def test_offers(self):
        self.replaced("offer 10", "offer", "offer 10", "offer 10 2 3", "offer 1000001 2", "offer 10 0", "offer 10 1001", "offer ann 2")
        self.replaced("aside", "aside", "aside 0", "aside 1001", "aside 4 4", "aside none")
        at = place_of("offer 10")
        seven = ["offer 1000000 1000"] * 7
        self.assertEqual(len(read_house(text_with(at, *seven)).rule("sale").guests.offers), 8)
        self.wrong(at + 9, text_with(at, *seven, "offer 1 1", "offer 1 1"))
        # Offers without an `aside` line are no guests.
        self.wrong(place_of("aside") + 1, text_with(place_of("aside")))
        without = [line for line in LINES if not line.startswith(("offer", "aside"))]
        self.assertIsNone(read_house("\n".join(without)).rule("sale").guests)

    def test_offers_of_another_rule_do_not_count(self):
        rule = [line for line in LINES[9:21] if not line.startswith("barred")]
        other = [line.replace("sale", "other") for line in rule[:-3]]
        house = read_house("\n".join([*LINES[:21], *other, "offer 5 5", "aside 1", *LINES[26:]]))
        self.assertEqual(house.rule("other").guests, Guests([(5, 5)], 1))
        self.assertEqual(house.rule("sale").guests, Guests([(10, 2), (0, 1)], 4))

    def test_pages(self):
        self.replaced(
            "page mon", "page", "page mon", "page mon ben 10 ann 0", "page > tue", "page >", "page Mon > tue", "page mon ben > tue",
            "page mon ben 10 ann > tue", "page mon ben 10 ben 10 > tue", "page mon dan 10 > tue", "page mon 10 ben > tue",
            "page mon ben 1000000001 > tue", "page mon > tue tue", "page mon > tue > mon", "page mon > > tue", "page mon > Tue",
            "page mon > tue 1", "page mon ben 10 > tue mon tue", "page mon ben10 > tue", "page mon ben 10> tue", "page mon ben 10 >tue",
            "page mon > ninechars",
        )
        self.replaced("page tue", "page mon >")
        self.replaced("page wed", "page mon >", "page tue >")
        at = place_of("home")
        self.assertEqual(len(read_house(text_with(at, "page thu >", LINES[at])).book), 4)
        self.wrong(at + 2, text_with(at, "page thu >", "page fri >", LINES[at]))

    def test_home_and_begin(self):
        for kind in ("home", "begin"):
            self.replaced(kind, kind, f"{kind} thu", f"{kind} mon mon", f"{kind} mon tue mon", f"{kind} mon thu", f"{kind} ann", f"{kind} 1")

    def test_ballots(self):
        self.replaced(
            "ballots 4", "ballots", "ballots day", "ballots day 4", "ballots 4 day day", "ballots 4 mon", "ballots 4 day sale rest day",
            "ballots 4 4", "ballots 1000000001 day",
        )

    def test_followers_that_are_no_pages(self):
        at = place_of("page tue")
        self.wrong(at + 1, text_with(at, "page tue > thu"))
        self.wrong(at + 1, text_with(at, "page tue > mon ann wed"))
        self.wrong(at + 1, text_with(at, "page tue > mon tue wed thu fri sat"))
        # Of two such lines the first one counts.
        self.wrong(at + 1, "\n".join([*LINES[:at], "page tue > thu", "page wed > sat", *LINES[at + 2:]]))
        # Every other wrong line comes before that, also one further below, and a text that ends too early.
        self.wrong(len(LINES) + 1, text_with(at, "page tue > thu") + "\nballots x")
        self.wrong(place_of("home") + 1, "\n".join([*LINES[:at], "page tue > thu", LINES[at + 1], "home sun", *LINES[BEGIN:]]))
        self.wrong(BEGIN + 1, "\n".join([*LINES[:at], "page tue > thu", *LINES[at + 1:BEGIN]]))

    def test_first_of_several(self):
        chance = random.Random(340)
        for _ in range(100):
            places = sorted(chance.sample(range(len(LINES)), 3))
            lines = [chance.choice(["", "x y", line + " "]) if at in places else line for at, line in enumerate(LINES)]
            self.wrong(places[0] + 1, "\n".join(lines))


if __name__ == "__main__":
    unittest.main()
