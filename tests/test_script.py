"""Scripts that are done at a desk [61]."""

import random
import unittest

from desks import all_seen, seen, small_house, some_deed
from helpers import Case
from making import day_book
from rounds import some_games
from turnsandkeys.desk import Desk
from turnsandkeys.errors import (
    BadCommand, BadNumber, BadStanding, DeskOver, DoubledName, HouseError, MoveWaits, NoDeed, NoMove, NoMoveWaits,
    NothingToRedo, PagesFollow, TooLarge, UnknownName,
)
from turnsandkeys.houses import House
from turnsandkeys.pages import Book
from turnsandkeys.rules import BidRule, TurnRule
from turnsandkeys.script import run_script
from test_games import FOUR, LARGE_PAGES

MEMBERS = ["ann", "ben"]
DAY = House([TurnRule("day", MEMBERS, limit=1, deposit=3)], day_book())
WRONG = [
    # unknown words
    "x", "Lend ann", "lendann", "undo", "redo", "several", "-", "log", "remember 3", "LEFT", "lend;", "amend-day",
    # too few words
    "lend", "do", "do ann", "do ann ann day", "put", "amend", "amend day", "amend day limit",
    # too many words
    "lend ann ben", "do ann ann day mon x", "finish now", "amend day limit 3 4", "left 1", "advice ann", "threat -", "where x",
    # two blanks side by side, a blank at either end
    "lend  ann", " lend ann", "lend ann ", "finish ", " finish", "left ", " ", "  ", "put 1  day", "put 1 ", "do ann  day mon",
    "do  ann ann day mon", "amend day  limit", "amend day limit ", "where ", " where", "advice ", "threat ",
    # wrong numbers
    "put x", "put -1", "put 01", "put 12345678901", "put 1.5", "put -", "put day 1", "put none", "amend day limit x",
    "amend day limit -1", "amend day deposit none", "amend day fee none", "amend day start none", "amend day deposit -",
    "amend day fee 007", "amend day start 12345678901", "amend day limit None", "put +1",
    # wrong names
    "lend Ann", "lend a1", "lend abcdefghi", "lend ann>ben", "lend --", "do Ann ann day mon", "do ann> ann day mon",
    "do >ann ann day mon", "do > - - -", "do ann>>ben - - -", "do ann>- - - -", "do -> - - -", "do ann A day mon",
    "do ann ann Day mon", "do ann ann day m1", "do ann,ben - - -", "put 1 Day", "put 1 -", "put 1 day x1", "put 1 day>hard",
    "amend Day limit 1", "amend - limit 1", "amend day x 1", "amend day Limit 1", "amend day name 1", "amend day - 1",
    "amend day barred 1", "amend day hours 1", "amend day links 1",
]


class ScriptCase(Case):
    def wrong(self, desk, text, line, cause=None, told=None):
        """The text is refused at this line, with this cause, and the desk is as before."""
        before = all_seen(desk)
        caught = self.fails(BadCommand, {"line": line}, run_script, desk, text)
        self.assertEqual(all_seen(desk), before)
        if cause is None:
            self.assertIsNone(caught.__cause__)
        else:
            self.assertIs(type(caught.__cause__), cause)
            self.assertEqual(vars(caught.__cause__), told or {})


class StepsTest(ScriptCase):
    def test_parameters(self):
        self.has_parameters(run_script, "desk", "text")
        desk = Desk(DAY)
        self.assertEqual(run_script(desk=desk, text="left"), ["3"])
        self.is_new_list(lambda: run_script(desk, "left"))

    def test_steps(self):
        desk = Desk(small_house())
        self.assertEqual(run_script(desk, "lend ben"), [])
        self.assertEqual(desk.move_now, "ben")
        run_script(desk, "do ben ben day mon")
        self.assertEqual(list(desk.log()), [(("mon", "day", "", (0, 0)), "ben", (("ben",), "ben", "day", "mon"), 3)])
        run_script(desk, "lend -\ndo - - hard tue\nput 3 hard day\nput 2\nput 0 day\nput 4294967 hard")
        self.assertEqual((desk.standing_now, desk.undoable), (("tue", "hard", "", (2, 0)), 3))
        house = small_house()
        rows = [*house.roll, (("hard", "day"), 3), ((), 2), (("hard",), 4294967)]
        self.assertEqual(desk.house_now, House(house.rules, house.book, rows))
        run_script(desk, "lend ben\ndo ben ann - -")
        self.assertEqual((desk.fault_now, desk.undoable), (("held", "ann"), 4))
        desk = Desk(small_house())
        run_script(desk, "lend ann\ndo ann - day end\nlend -\nfinish")
        self.assertEqual((desk.standing_now, desk.fault_now, desk.undoable), (None, None, 1))

    def test_takers(self):
        book = Book(MEMBERS, [("mon", [("ann", 5), ("ben", 3)], ["mon"])], ["mon"])
        desk = Desk(House([BidRule("sale", MEMBERS, hours=2, deposit=1)], book))
        run_script(desk, "lend -\ndo ben>ann ann sale mon")
        self.assertEqual([row[2:] for row in desk.log()], [((("ben", "ann"), "ann", "sale", "mon"), 4)])

    def test_amend(self):
        desk = Desk(small_house())
        expected = small_house()
        for part, number in (("limit", 2), ("deposit", 10 ** 9), ("fee", 0), ("start", 7), ("limit", None), ("limit", 3)):
            run_script(desk, f"amend hard {part} {'none' if number is None else number}")
            expected = expected.with_rule(expected.rule("hard").changed(**{part: number}))
            self.assertEqual(desk.house_now, expected)

    def test_one_step_for_all(self):
        desk = Desk(DAY)
        desk.lend("ben")
        desk.undo()
        text = "lend ann\n\ndo ann ann day mon\nleft\nput 1 day\nlend -\nwhere"
        self.assertEqual(run_script(desk, text), ["0", "mon day ann 0 1"])
        self.assertEqual((desk.undoable, desk.move_now, desk.spent, desk.house_now.roll.total), (1, "", 3, 1))
        self.fails(NothingToRedo, {}, desk.redo)
        now = seen(desk)
        desk.undo()
        self.assertEqual(seen(desk), seen(Desk(DAY)))
        desk.redo()
        self.assertEqual(seen(desk), now)

    def test_no_step_for_a_text_without_one(self):
        desk = Desk(DAY)
        desk.put(())
        desk.put(())
        desk.undo()
        before = all_seen(desk)
        for text, answers in (("", []), ("\n\n", []), ("left", ["3"]), ("advice\nwhere\n\nleft", ["ann", "mon day - 0 0", "3"])):
            self.assertEqual(run_script(desk, text), answers)
            self.assertEqual(all_seen(desk), before)
        run_script(desk, "put 0")
        self.assertEqual(desk.undoable, 2)

    def test_memory(self):
        for memory in (0, 1, 2):
            desk = Desk(DAY, memory=memory)
            run_script(desk, "put 1\nput 1\nput 1")
            self.assertEqual((desk.undoable, desk.memory), (min(memory, 1), memory))
            run_script(desk, "put 1\nput 1\nput 1")
            self.assertEqual((desk.undoable, desk.house_now.roll.total), (min(memory, 2), 6))

    def test_at_random(self):
        chance = random.Random(610)
        for house, _ in some_games(chance, 40, most=40):
            desk, other = Desk(house), Desk(house)
            for _ in range(12):
                deeds, lines = [], []
                with other.trial():
                    for _ in range(chance.randint(1, 4)):
                        now = {"house": other.house_now, "standing": other.standing_now, "move": other.move_now}
                        deeds.append(some_deed(chance, now))
                        lines.append(line_of(deeds[-1]))
                        try:
                            other.several(deeds[-1])
                        except HouseError:
                            break
                try:
                    other.several(*deeds)
                except HouseError as error:
                    if any("put -" in line for line in lines):
                        self.wrong(desk, "\n".join(lines), len(lines))
                    else:
                        self.wrong(desk, "\n".join(lines), len(lines), type(error), vars(error))
                else:
                    self.assertEqual(run_script(desk, "\n".join(lines)), [])
                self.assertEqual(all_seen(desk), all_seen(other))


def line_of(deed):
    kind, *told = deed
    if kind == "put":
        many = told[1] if len(told) > 1 else 1
        return " ".join(["put", str(many), *told[0]])
    if kind == "do":
        takers, *others = told[0]
        return " ".join(["do", ">".join(takers) or "-", *[word or "-" for word in others]])
    return " ".join([kind, *[word or "-" for word in told]])


class AnswersTest(ScriptCase):
    def test_left(self):
        desk = Desk(DAY)
        self.assertEqual(run_script(desk, "left\nleft"), ["3", "3"])
        never = Desk(DAY.changed(limit=None))
        self.assertEqual(run_script(never, "left"), ["never"])
        run_script(desk, "lend ann\ndo ann ann day mon\nlend -\ndo - - - -")
        self.assertEqual(run_script(desk, "left\nwhere"), ["0", "over"])
        end = Desk(small_house())
        self.assertEqual(run_script(end, "lend ann\ndo ann - day end\nlend -\nfinish\nleft\nwhere"), ["never", "over"])

    def test_advice_and_threat(self):
        desk = Desk(DAY)
        self.assertEqual(run_script(desk, "advice\nlend ann\nthreat\nleft"), ["ann", "ann - day mon for 3", "3"])
        found = run_script(desk, "do ann ann day mon\nadvice\nlend -\nthreat\ndo - - - -\nleft")
        self.assertEqual(found, ["-", "- - - - for 0", "0"])
        never = Desk(DAY.changed(limit=None))
        self.assertEqual(run_script(never, "lend -\nthreat"), ["none"])
        pages = [("mon", [("ann", 5), ("ben", 3)], [])]
        rule = BidRule("sale", MEMBERS, hours=2, barred=[], links=[])
        sale = Desk(House([rule.changed(limit=0)], Book(MEMBERS, pages, ["mon"])))
        self.assertEqual(run_script(sale, "advice\nlend -\nthreat"), ["-", "none"])
        one = Desk(House([rule.changed(limit=0, hours=1)], Book(MEMBERS, pages, ["mon"])))
        self.assertEqual(run_script(one, "lend -\nthreat"), ["ann - - - for 0"])
        rules = [rule.changed(hours=2, deposit=1), TurnRule("hard", MEMBERS, barred=["ben"], fee=1)]
        pages = [("mon", [("ann", 5), ("ben", 3)], ["end"]), ("end", [], [])]
        both = Desk(House(rules, Book(MEMBERS, pages, ["mon"])))
        self.assertEqual(run_script(both, "lend -\nthreat"), ["ann>ben ben hard - for 2"])

    def test_where(self):
        desk = Desk(small_house())
        found = run_script(desk, "where\nlend ben\nwhere\ndo ben ben hard end\nwhere\nlend -\nwhere")
        self.assertEqual(found, ["mon day - 0 0", "mon day - 0 0", "end hard ben 1 0", "end hard ben 1 0"])

    def test_every_answer_in_order(self):
        desk = Desk(DAY)
        text = "left\n\nadvice\nwhere\nlend ben\nthreat\nleft\ndo ben ben day mon\nleft\nwhere\nadvice"
        self.assertEqual(run_script(desk, text), [
            "3", "ann", "mon day - 0 0", "ben - day mon for 3", "3", "0", "mon day ben 1 0", "-",
        ])


class WrongTest(ScriptCase):
    def test_each_wrong_form(self):
        for text in WRONG:
            desk = Desk(small_house())
            desk.put(())
            desk.undo()
            self.wrong(desk, text, 1)
            self.wrong(desk, f"\nlend ann\nleft\n{text}\nx", 4)
            self.wrong(desk, f"lend ann\ndo ann - day tue\n{text}", 3)

    def test_no_wrong_forms(self):
        for text in ("lend longname", "do longname longname longname longname", "put 9999999999 day", "amend longname fee 0"):
            with self.assertRaises(BadCommand) as caught:
                run_script(Desk(DAY), text)
            self.assertIsNotNone(caught.exception.__cause__)

    def test_errors_of_the_desk(self):
        desk = Desk(small_house())
        deed = (("ann",), "ben", "day", "mon")
        for text, line, cause, told in (
            ("lend cid", 1, NoMove, {"move": "cid"}), ("lend ann\nlend ann", 2, MoveWaits, {}), ("finish", 1, NoMoveWaits, {}),
            ("lend ann\nfinish", 2, PagesFollow, {}), ("threat", 1, NoMoveWaits, {}), ("lend ann\nadvice", 2, MoveWaits, {}),
            ("do ann - day mon", 1, NoMoveWaits, {}), ("lend ann\ndo ann ben day mon", 2, NoDeed, {"deed": deed}),
            ("put 1 x", 1, UnknownName, {"name": "x"}), ("put 1 day day", 1, DoubledName, {"name": "day"}),
            ("put 1000000001", 1, BadNumber, {"number": 10 ** 9 + 1}), ("amend x limit 9", 1, UnknownName, {"name": "x"}),
            ("amend day limit 4", 1, BadNumber, {"number": 4}), ("amend day fee 1000000001", 1, BadNumber, {"number": 10 ** 9 + 1}),
            ("lend ann\namend day limit 1", 2, MoveWaits, {}), ("lend -\nput 1", 2, MoveWaits, {}),
            ("lend ann\ndo ann - day end\nlend -\nfinish\nlend -", 5, DeskOver, {}),
            ("lend ann\ndo ann - day end\nlend -\nfinish\nwhere\nleft\nadvice", 7, DeskOver, {}),
            ("lend ann\ndo ann - day mon\namend hard limit 0\namend day limit 0", 4, BadStanding,
             {"standing": ("mon", "day", "", (0, 1))}),
        ):
            self.wrong(desk, text, line, cause, told)
            self.wrong(desk, f"\n\n{text}\nx", line + 2, cause, told)

    def test_too_large(self):
        book = Book(FOUR, [*LARGE_PAGES, ("s", [], ["p"])], ["s"], home=["p", "q"])
        desk = Desk(House([TurnRule("day", FOUR, limit=1)], book))
        self.wrong(desk, "put 1\namend day limit 3", 2, TooLarge)

    def test_first_wrong_line_counts(self):
        desk = Desk(DAY)
        self.wrong(desk, "lend x\nfoo", 1, NoMove, {"move": "x"})
        self.wrong(desk, "foo\nlend x", 1)
        self.wrong(desk, "left\nlend ann\nfoo\nlend ann", 3)
        self.wrong(desk, "left\nlend ann\nlend ann\nfoo", 3, MoveWaits)

    def test_what_can_be_taken_back_stays(self):
        desk = Desk(DAY, memory=2)
        for _ in range(4):
            desk.put(())
        desk.undo()
        self.wrong(desk, "put 1\nput 1\nput 1\nlend x", 4, NoMove, {"move": "x"})
        self.wrong(desk, "put 1\nput 1\nput 1\nlend X", 4)
        desk.redo()
        self.assertEqual((desk.undoable, desk.house_now.roll.total), (2, 4))


if __name__ == "__main__":
    unittest.main()
