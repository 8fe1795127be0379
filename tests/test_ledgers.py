"""The ledger of a desk [62]."""

import random
import unittest

from helpers import Case
from making import day_book
from rounds import some_games
from turnsandkeys.deeds import outcomes
from turnsandkeys.desk import Desk
from turnsandkeys.houses import House
from turnsandkeys.ledgers import ledger
from turnsandkeys.pages import Book
from turnsandkeys.rules import TurnRule
from turnsandkeys.standings import moves

MEMBERS = ["ann", "ben"]
DAY = House([TurnRule("day", MEMBERS, limit=1, deposit=3)], day_book())
HEADER = "round page     rule     lent     holder             coins           spent"


def with_commas(number):
    text = str(number)
    parts = []
    while len(text) > 3:
        parts.insert(0, text[-3:])
        text = text[:-3]
    return ",".join([text, *parts])


def row_by_hand(*words):
    words = [str(word) for word in words]
    return " ".join([
        words[0].rjust(5), *[(word or "-").ljust(8) for word in words[1:5]], words[5].rjust(15), words[6].rjust(15),
    ])


class LedgerTest(Case):
    def test_without_rounds(self):
        self.has_parameters(ledger, "desk")
        desk = Desk(DAY)
        self.assertEqual(ledger(desk=desk), HEADER)
        desk.lend("ann")
        self.assertEqual(ledger(desk), HEADER)

    def test_rounds_and_a_fault(self):
        desk = Desk(DAY)
        desk.several(("lend", "ann"), ("do", (("ann",), "ann", "day", "mon")), ("lend", ""))
        rows = [HEADER, "    1 mon      day      ann      ann                    3               3"]
        self.assertEqual(ledger(desk), "\n".join(rows))
        desk.do(((), "", "", ""))
        rows.append("    2 mon      day      -        -                      0               3")
        self.assertEqual(ledger(desk), "\n".join([*rows, "passed ben"]))
        desk.undo()
        self.assertEqual(ledger(desk), "\n".join(rows[:2]))

    def test_held(self):
        rule = TurnRule("longrule", ["abcdefgh", "ben"], barred=["ben"], links=[("abcdefgh", "ben", 1234567)])
        book = Book(["abcdefgh", "ben"], [("longpage", [("abcdefgh", 0)], [])], ["longpage"])
        desk = Desk(House([rule], book))
        desk.several(("lend", "abcdefgh"), ("do", (("abcdefgh",), "ben", "", "")))
        self.assertEqual(ledger(desk), "\n".join([
            HEADER, "    1 longpage longrule abcdefgh ben            1,234,567       1,234,567", "held ben",
        ]))

    def test_finish(self):
        book = Book(MEMBERS, [("mon", [("ann", 0)], [])], ["mon"])
        desk = Desk(House([TurnRule("day", MEMBERS)], book))
        desk.several(("lend", "ann"), ("finish",))
        self.assertEqual(ledger(desk), f"{HEADER}\n    1 mon      day      ann      -                      0               0")

    def test_great_sums(self):
        # Under its start of 10 ** 9 ballots the rule day gives way for as many ballots, each for 10 ** 9 coins.
        rules = [TurnRule(name, MEMBERS, fee=10 ** 9, deposit=10 ** 9, start=10 ** 9) for name in ("day", "free")]
        desk = Desk(House(rules, day_book()))
        price = desk.house_now.vote_price("day", "free")
        self.assertGreater(price, 10 ** 17)
        spent = 0
        rows = [HEADER]
        for number, (rule, other) in enumerate([("day", "free"), ("free", "day"), ("day", "day"), ("day", "free")], 1):
            standing = desk.standing_now
            paid = desk.several(("lend", ""), ("do", ((), "", other, "mon")))[1]
            spent += paid
            rows.append(row_by_hand(number, standing[0], rule, "", "", with_commas(paid), with_commas(spent)))
        self.assertEqual(ledger(desk), "\n".join(rows))
        self.assertGreater(len(rows[-1]), len(HEADER))
        self.assertEqual([len(row.split()[-1]) for row in rows[1:3]], [len(with_commas(price)), len(with_commas(2 * price))])

    def test_at_random(self):
        chance = random.Random(620)
        faults = set()
        for house, _ in some_games(chance, 80, most=60, worth=900):
            desk = Desk(house)
            rows = [HEADER]
            spent = 0
            while desk.standing_now is not None and len(rows) < 15:
                page, rule, keeper, passes = desk.standing_now
                move = chance.choice(moves(desk.house_now, desk.standing_now))
                found = outcomes(desk.house_now, desk.standing_now, move)
                desk.lend(move)
                self.assertEqual(ledger(desk), "\n".join(rows))
                price, holder = 0, ""
                if found and (house.book.page(page).followers or chance.random() < 0.5):
                    deed = chance.choice(found)[0]
                    price, holder = desk.do(deed), deed[1]
                else:
                    desk.finish()
                spent += price
                rows.append(row_by_hand(len(rows), page, rule, move, holder, with_commas(price), with_commas(spent)))
            end = [] if desk.fault_now is None else [f"{desk.fault_now[0]} {desk.fault_now[1]}"]
            self.assertEqual(ledger(desk), "\n".join([*rows, *end]))
            faults.add(desk.fault_now and desk.fault_now[0])
        self.assertEqual(faults, {None, "passed", "held"})


if __name__ == "__main__":
    unittest.main()
