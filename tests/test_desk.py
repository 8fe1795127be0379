"""The desk: following a house live [57 to 60]."""

import inspect
import random
import unittest

from desks import Model, all_seen, seen, small_house, some_change, some_deed, some_deeds
from helpers import Case
from making import day_book
from rounds import some_games
from test_games import FOUR, LARGE_PAGES, large_house
from turnsandkeys import errors
from turnsandkeys.deeds import outcomes
from turnsandkeys.desk import Desk, Trial
from turnsandkeys.errors import (
    BadCount, BadNumber, BadStanding, DeskOver, DoubledName, HouseError, MoveWaits, NoDeed, NoLink, NoMove, NoMoveWaits,
    NothingToRedo, NothingToUndo, PagesFollow, TooLarge, UnknownName, UnknownPage,
)
from turnsandkeys.games import Game
from turnsandkeys.houses import House
from turnsandkeys.pages import Book
from turnsandkeys.rules import BidRule, TurnRule

MEMBERS = ["ann", "ben"]
DAY = House([TurnRule("day", MEMBERS, limit=1, deposit=3)], day_book())
FREE = ("mon", "day", "", (0, 0))
LATE = ("mon", "day", "ann", (0, 1))
KEEP = (("ann",), "ann", "day", "mon")
BACK = (("ann",), "", "day", "mon")
BREAK = ((), "", "", "")
PROPERTIES = ("house_now", "standing_now", "move_now", "fault_now", "spent", "left", "undoable", "memory")
METHODS = {
    "lend": ["move"], "do": ["deed"], "finish": [], "amend": ["rule"], "put": ["ballot", "many=1"], "several": ["*deeds"],
    "undo": [], "redo": [], "remember": ["n"], "advice": [], "threat": [], "log": [], "trial": [], "tried": ["*deeds"],
}


class DeskCase(Case):
    def refuses(self, desk, error, told, call, *args, **named):
        """The call raises the error, and the desk is as before."""
        before = all_seen(desk)
        caught = self.fails(error, told, call, *args, **named)
        self.assertEqual(all_seen(desk), before)
        return caught


class MakingTest(DeskCase):
    def test_interface(self):
        self.has_parameters(Desk, "house", "*", "start=None", "memory=20")
        for name in PROPERTIES:
            self.assertIsInstance(vars(Desk)[name], property)
            self.assertEqual(vars(Desk)[name].fset is not None, name == "memory")
        for name, parameters in METHODS.items():
            self.assertIn(name, vars(Desk))
            if name != "amend":
                self.has_parameters(vars(Desk)[name], "self", *parameters)
        kinds = [str(parameter) for parameter in inspect.signature(Desk.amend).parameters.values()]
        self.assertEqual(kinds, ["self", "rule", "**parts"])
        self.assertTrue(inspect.isgeneratorfunction(Desk.log))
        self.assertLessEqual({"__enter__", "__exit__"}, set(vars(Trial)))
        self.assertIs(type(Desk(DAY).trial()), Trial)

    def test_first_state(self):
        desk = Desk(DAY)
        self.assertEqual(seen(desk), (DAY, FREE, None, None, 0, 3, 0, 20, []))
        self.assertIs(desk.house_now, DAY)
        house = small_house()
        self.assertEqual(Desk(house).standing_now, ("mon", "day", "", (0, 0)))
        self.assertEqual(Desk(house=house, start="tue", memory=7).standing_now, ("tue", "day", "", (0, 0)))
        self.assertEqual([Desk(house, memory=memory).memory for memory in (0, 1, 100)], [0, 1, 100])
        self.keeps_arguments(Desk, house, start="tue")

    def test_checks_in_order(self):
        house = small_house()
        for start in ("end", "x", "", "day"):
            self.fails(UnknownPage, {"name": start}, Desk, house, start=start, memory=-1)
        for memory in (-1, 101, 10 ** 59, -(10 ** 59)):
            self.fails(BadNumber, {"number": memory}, Desk, house, memory=memory)
            self.fails(BadNumber, {"number": memory}, Desk, large_house("p", "s"), start="s", memory=memory)
        large = large_house("p", "s")
        self.fails(UnknownPage, {"name": "q"}, Desk, large, start="q")
        self.fails(TooLarge, {}, Desk, large, start="s")
        # Only what can come from the present standing counts.
        self.assertEqual(Desk(large, start="p").standing_now, ("p", "day", "", (0, 0, 0, 0)))
        self.assertEqual(Desk(large).standing_now[0], "p")
        self.fails(TooLarge, {}, Desk, large_house("s", "p"))


class StepsTest(DeskCase):
    def test_rounds_with_a_fault(self):
        desk = Desk(DAY)
        self.assertIsNone(desk.lend(move="ann"))
        self.assertEqual(seen(desk), (DAY, FREE, "ann", None, 0, 3, 1, 20, []))
        self.assertEqual(desk.do(deed=KEEP), 3)
        row = (FREE, "ann", KEEP, 3)
        self.assertEqual(seen(desk), (DAY, LATE, None, None, 3, 0, 2, 20, [row]))
        self.assertIsNone(desk.lend(""))
        self.assertEqual(desk.move_now, "")
        self.assertEqual(desk.do(BREAK), 0)
        self.assertEqual(seen(desk), (DAY, None, None, ("passed", "ben"), 3, 0, 4, 20, [row, (LATE, "", BREAK, 0)]))

    def test_end_of_the_walk(self):
        house = small_house()
        desk = Desk(house)
        desk.lend("ann")
        desk.do((("ann",), "", "day", "end"))
        desk.lend("")
        self.assertIsNone(desk.finish())
        at = ("end", "day", "", (0, 1))
        self.assertEqual(seen(desk)[1:8], (None, None, None, 0, None, 4, 20))
        self.assertEqual(list(desk.log())[1:], [(at, "", None, 0)])
        # On the last page a promise can still be broken.
        desk = Desk(house)
        desk.several(("lend", "ben"), ("do", (("ben",), "ben", "hard", "end")), ("lend", ""), ("do", ((), "ann", "", "")))
        self.assertEqual((desk.fault_now, desk.standing_now, desk.left), (("held", "ann"), None, 0))

    def test_lend(self):
        desk = Desk(DAY)
        for move in ("x", "mon", "day", "annn"):
            self.refuses(desk, NoMove, {"move": move}, desk.lend, move)
        desk.lend("ann")
        self.refuses(desk, MoveWaits, {}, desk.lend, "x")
        desk.do(KEEP)
        self.refuses(desk, NoMove, {"move": "ann"}, desk.lend, "ann")
        desk.lend("")
        desk.do(BREAK)
        self.refuses(desk, DeskOver, {}, desk.lend, "x")

    def test_do(self):
        desk = Desk(DAY)
        self.refuses(desk, NoMoveWaits, {}, desk.do, BREAK)
        desk.lend("ann")
        for deed in (BREAK, (("ben",), "", "day", "mon"), (("ann",), "", "day", "tue"), (("ann",), "ann", "", "")):
            self.refuses(desk, NoDeed, {"deed": deed}, desk.do, deed)
        desk.do(KEEP)
        self.refuses(desk, NoMoveWaits, {}, desk.do, BREAK)
        desk.lend("")
        desk.do(BREAK)
        self.refuses(desk, DeskOver, {}, desk.do, BREAK)

    def test_finish(self):
        desk = Desk(small_house())
        self.refuses(desk, NoMoveWaits, {}, desk.finish)
        desk.lend("ann")
        self.refuses(desk, PagesFollow, {}, desk.finish)
        desk.do((("ann",), "", "day", "end"))
        self.refuses(desk, NoMoveWaits, {}, desk.finish)
        desk.lend("ann")
        desk.finish()
        for call in (desk.finish, desk.advice, desk.threat):
            self.refuses(desk, DeskOver, {}, call)

    def test_amend(self):
        desk = Desk(DAY)
        self.assertIsNone(desk.amend("day", deposit=9))
        self.assertEqual((desk.house_now, desk.left, desk.undoable), (DAY.changed(deposit=9), 9, 1))
        self.assertIsNone(desk.amend(rule="day", limit=2, fee=4))
        self.assertEqual((desk.house_now, desk.left), (DAY.changed(deposit=9, limit=2, fee=4), 18))
        desk.amend("day")
        self.assertEqual(desk.undoable, 3)
        desk.lend("ann")
        self.refuses(desk, MoveWaits, {}, desk.amend, "x", limit=9)
        desk.do(BACK)
        self.assertEqual(desk.standing_now, ("mon", "day", "", (0, 1)))
        self.refuses(desk, UnknownName, {"name": "mon"}, desk.amend, "mon", limit=9)
        self.refuses(desk, BadNumber, {"number": 9}, desk.amend, "day", limit=9)
        self.refuses(desk, BadNumber, {"number": -1}, desk.amend, "day", deposit=-1)
        self.refuses(desk, UnknownName, {"name": "x"}, desk.amend, "day", barred=["x"])
        self.refuses(desk, BadCount, {"size": 13}, desk.amend, "day", links=[("ann", "ben", 0)] * 13)
        # Passes above the greatest limit are no standing of the changed house.
        self.refuses(desk, BadStanding, {"standing": desk.standing_now}, desk.amend, "day", limit=0)
        self.refuses(desk, BadStanding, {"standing": desk.standing_now}, desk.amend, "day", limit=None)
        desk.amend("day", limit=1)
        self.assertEqual(desk.left, 9)

    def test_amend_with_a_keeper(self):
        desk = Desk(DAY)
        desk.several(("lend", "ann"), ("do", KEEP))
        self.refuses(desk, BadStanding, {"standing": LATE}, desk.amend, "day", barred=["ann"])
        desk.amend("day", barred=["ben"])
        self.assertEqual((desk.house_now.rules[0].barred, desk.left), (("ben",), None))
        desk.several(("lend", ""), ("do", ((), "ann", "day", "mon")))
        over = Desk(DAY)
        over.several(("lend", "ann"), ("do", KEEP), ("lend", ""), ("do", BREAK))
        self.refuses(over, DeskOver, {}, over.amend, "x", limit=9)

    def test_amend_until_it_is_too_large(self):
        house = large_house("p").changed(limit=1)
        desk = Desk(house)
        large = House(house.rules, Book(FOUR, [*LARGE_PAGES, ("s", [], ["p"])], ["s"]))
        self.refuses(desk, BadNumber, {"number": 4}, desk.amend, "day", limit=4)
        desk.amend("day", limit=3)
        self.assertEqual(len(Game(desk.house_now, at=desk.standing_now)), 400)
        desk = Desk(large)
        self.refuses(desk, TooLarge, {}, desk.amend, "day", limit=3)
        desk.amend("day", limit=2)
        self.assertEqual((desk.standing_now[0], desk.house_now), ("s", large.changed(limit=2)))

    def test_put(self):
        house = small_house()
        desk = Desk(house)
        self.assertEqual(desk.put(("hard",)), 4)
        self.assertEqual(desk.put(ballot=("hard",), many=5), 9)
        self.assertEqual(desk.put((), 0), 9)
        self.assertEqual(desk.put(()), 10)
        self.assertEqual(desk.house_now, House(house.rules, house.book, [*house.roll, (("hard",), 6), ((), 1)]))
        self.assertEqual((desk.house_now.vote_price("day", "hard"), desk.undoable), (0, 4))
        self.assertEqual(desk.left, Game(desk.house_now, at=desk.standing_now).price_of(desk.standing_now))
        self.assertNotEqual(desk.left, Desk(house).left)
        # Counts can exceed the bound of a single row.
        for times in range(1, 4):
            self.assertEqual(desk.put(("day", "hard"), 10 ** 9), 10 + times * 10 ** 9)
        self.assertEqual(desk.house_now.roll[("day", "hard")], 3 * 10 ** 9)
        for ballot, error, name in (
            (("x",), UnknownName, "x"), (("day", "day"), DoubledName, "day"), (("day", "mon", "day"), UnknownName, "mon"),
        ):
            self.refuses(desk, error, {"name": name}, desk.put, ballot, -1)
        for many in (-1, 10 ** 9 + 1, 10 ** 59):
            self.refuses(desk, BadNumber, {"number": many}, desk.put, ("day",), many)
        desk.amend("day", fee=3)
        desk.lend("ann")
        self.refuses(desk, MoveWaits, {}, desk.put, ("x",), -1)
        desk.several(("do", (("ann",), "", "day", "end")), ("lend", ""), ("finish",))
        self.refuses(desk, DeskOver, {}, desk.put, ("x",), -1)


class SeveralTest(DeskCase):
    def test_answers(self):
        desk = Desk(small_house())
        found = desk.several(
            ("put", ("hard",)), ("put", (), 3), ("lend", "ann"), ("do", (("ann",), "ann", "day", "end")), ("lend", ""), ("finish",),
        )
        self.assertEqual(found, (4, 7, None, 3, None, None))
        self.assertEqual((desk.undoable, desk.spent, desk.standing_now, desk.left), (1, 3, None, None))
        desk.undo()
        self.assertEqual(seen(desk), seen(Desk(small_house())))
        desk.redo()
        self.assertEqual((desk.spent, desk.house_now.roll.total, len(list(desk.log()))), (3, 7, 2))

    def test_errors_in_the_middle(self):
        desk = Desk(DAY)
        desk.lend("ann")
        desk.undo()
        right = [("put", ("day",)), ("lend", "ann"), ("do", KEEP)]
        for deed, error, told in (
            (("do", BREAK), NoMoveWaits, {}), (("lend", "ben"), NoMove, {"move": "ben"}), (("finish",), NoMoveWaits, {}),
            (("put", ("x",), -1), UnknownName, {"name": "x"}), (("put", (), -1), BadNumber, {"number": -1}),
        ):
            for rest in ([], [("lend", "")], [("lend", "x")]):
                self.refuses(desk, error, told, desk.several, *right, deed, *rest)
                self.refuses(desk, error, told, desk.tried, *right, deed, *rest)
        desk.redo()
        self.refuses(desk, MoveWaits, {}, desk.several, ("lend", "x"))
        self.refuses(desk, PagesFollow, {}, desk.several, ("finish",), ("lend", ""))

    def test_without_arguments(self):
        desk = Desk(DAY)
        desk.lend("ann")
        desk.undo()
        self.assertEqual(desk.several(), ())
        self.assertEqual(seen(desk), (DAY, FREE, None, None, 0, 3, 1, 20, []))
        self.refuses(desk, NothingToRedo, {}, desk.redo)
        desk.undo()
        self.assertEqual(desk.undoable, 0)
        over = Desk(DAY)
        over.several(("lend", "ann"), ("do", KEEP), ("lend", ""), ("do", BREAK))
        self.assertEqual(over.several(), ())
        self.assertEqual((over.undoable, over.fault_now), (2, ("passed", "ben")))

    def test_tried(self):
        desk = Desk(small_house())
        desk.put(("day",))
        desk.undo()
        before = all_seen(desk)
        keep = (("ben",), "ben", "hard", "end")
        self.assertEqual(desk.tried(), (("mon", "day", "", (0, 0)), None, None, 0, desk.left))
        self.assertEqual(desk.tried(("lend", "ben")), (("mon", "day", "", (0, 0)), "ben", None, 0, desk.left))
        found = desk.tried(("lend", "ben"), ("do", keep))
        standing = ("end", "hard", "ben", (1, 0))
        self.assertEqual(found, (standing, None, None, 7, Game(desk.house_now, at=standing).price_of(standing)))
        self.assertIs(type(found), tuple)
        found = desk.tried(("lend", "ben"), ("do", keep), ("lend", ""), ("do", ((), "ann", "", "")))
        self.assertEqual(found, (None, None, ("held", "ann"), 12, 0))
        self.assertEqual(desk.tried(("lend", "ben"), ("do", keep), ("lend", ""), ("finish",)), (None, None, None, 7, None))
        put = desk.tried(("put", ("hard",), 9))
        house = desk.house_now.with_book(desk.house_now.book)
        more = House(house.rules, house.book, [*house.roll, (("hard",), 9)])
        self.assertEqual(put[4], Game(more, at=put[0]).price_of(put[0]))
        self.assertEqual(all_seen(desk), before)
        desk.redo()


class UndoTest(DeskCase):
    def test_every_kind_of_step(self):
        desk = Desk(small_house())
        calls = [
            lambda: desk.lend("ben"), lambda: desk.do((("ben",), "", "day", "tue")), lambda: desk.amend("day", deposit=8),
            lambda: desk.put(("hard",), 9), lambda: desk.several(("lend", "ben"), ("do", (("ben",), "ben", "day", "mon"))),
            lambda: desk.several(), lambda: desk.lend(""), lambda: desk.do(((), "", "hard", "end")), lambda: desk.lend(""),
            lambda: desk.finish(),
        ]
        states = [seen(desk)]
        for call in calls:
            call()
            states.append(seen(desk))
        self.assertEqual(desk.undoable, len(calls))
        for state in reversed(states[:-1]):
            self.assertIsNone(desk.undo())
            self.assertEqual(seen(desk), state)
        self.refuses(desk, NothingToUndo, {}, desk.undo)
        for state in states[1:]:
            self.assertIsNone(desk.redo())
            self.assertEqual(seen(desk), state)
        self.refuses(desk, NothingToRedo, {}, desk.redo)

    def test_new_step_forgets_what_could_be_done_again(self):
        for call in (
            lambda desk: desk.lend("ben"), lambda desk: desk.put(()), lambda desk: desk.amend("day"), lambda desk: desk.several(),
        ):
            desk = Desk(DAY)
            desk.lend("ann")
            desk.undo()
            call(desk)
            self.fails(NothingToRedo, {}, desk.redo)
            self.assertEqual(desk.undoable, 1)

    def test_errors_forget_nothing(self):
        desk = Desk(DAY)
        desk.lend("ann")
        desk.undo()
        for call in (lambda: desk.lend("x"), lambda: desk.do(BREAK), lambda: desk.put(("x",)), lambda: desk.amend("x")):
            with self.assertRaises(HouseError):
                call()
        desk.redo()
        self.assertEqual(desk.move_now, "ann")


class MemoryTest(DeskCase):
    def test_bounds(self):
        for memory in (0, 1, 3, 100):
            desk = Desk(DAY, memory=memory)
            for times in range(1, 106):
                desk.put(())
                self.assertEqual(desk.undoable, min(times, memory))
            for _ in range(memory):
                desk.undo()
            self.fails(NothingToUndo, {}, desk.undo)
            self.assertEqual(desk.house_now.roll.total, 105 - memory)
        desk = Desk(DAY)
        for memory in (-1, 101, 10 ** 59):
            self.refuses(desk, BadNumber, {"number": memory}, desk.remember, memory)
            self.refuses(desk, BadNumber, {"number": memory}, setattr, desk, "memory", memory)

    def test_assigned_and_by_method(self):
        def assign(desk, number):
            desk.memory = number

        def remember(desk, number):
            self.assertIsNone(desk.remember(n=number))

        for change in (assign, remember):
            desk = Desk(DAY)
            for _ in range(6):
                desk.put(())
            desk.undo()
            desk.undo()
            change(desk, 3)
            self.assertEqual((desk.memory, desk.undoable, desk.house_now.roll.total), (3, 3, 4))
            # It is no step: what was taken back can be done again, and then the oldest step is forgotten.
            desk.redo()
            self.assertEqual((desk.undoable, desk.house_now.roll.total), (3, 5))
            change(desk, 0)
            self.assertEqual((desk.memory, desk.undoable), (0, 0))
            self.fails(NothingToUndo, {}, desk.undo)
            desk.redo()
            self.assertEqual((desk.undoable, desk.house_now.roll.total), (0, 6))
            self.fails(NothingToRedo, {}, desk.redo)
            change(desk, 100)
            self.assertEqual((desk.memory, desk.undoable), (100, 0))
            desk.put(())
            desk.undo()
            self.assertEqual(desk.house_now.roll.total, 6)

    def test_memory_0(self):
        desk = Desk(DAY, memory=0)
        desk.lend("ann")
        self.assertEqual((desk.undoable, desk.move_now), (0, "ann"))
        desk.do(KEEP)
        self.fails(NothingToUndo, {}, desk.undo)


class AskingTest(DeskCase):
    def test_advice(self):
        desk = Desk(DAY)
        before = all_seen(desk)
        self.assertEqual(desk.advice(), "ann")
        self.assertEqual(all_seen(desk), before)
        desk.lend("ann")
        self.refuses(desk, MoveWaits, {}, desk.advice)
        desk.do(BACK)
        self.assertEqual(desk.advice(), "ben")
        desk.several(("lend", "ann"), ("do", (("ann",), "", "", "")))
        self.refuses(desk, DeskOver, {}, desk.advice)

    def test_threat(self):
        desk = Desk(DAY)
        self.refuses(desk, NoMoveWaits, {}, desk.threat)
        desk.lend("ann")
        # To keep the key late and then to pass over costs 3; so does to wait for it.
        self.assertEqual(desk.threat(), (BACK, 3))
        desk.do(KEEP)
        desk.lend("")
        self.assertEqual(desk.threat(), (BREAK, 0))
        self.assertIs(type(desk.threat()), tuple)
        desk.do(BREAK)
        self.refuses(desk, DeskOver, {}, desk.threat)

    def test_no_threat(self):
        desk = Desk(DAY.changed(limit=None))
        desk.lend("ann")
        self.assertIsNone(desk.threat())
        end = House([TurnRule("day", MEMBERS)], Book(MEMBERS, [("mon", [], [])], ["mon"]))
        desk = Desk(end)
        desk.lend("")
        self.assertIsNone(desk.threat())

    def test_first_of_several_threats(self):
        links = [("ann", "ben", 0)]
        house = House([TurnRule("day", MEMBERS, barred=["ben"], links=links, limit=0)], day_book())
        desk = Desk(house)
        desk.lend("ann")
        self.assertEqual(desk.threat(), (BACK, 0))
        desk = Desk(House([BidRule("day", MEMBERS, barred=["ben"], links=links)], Book(
            MEMBERS, [("mon", [("ann", 0)], [])], ["mon"],
        )))
        desk.lend("")
        self.assertEqual(desk.threat(), ((("ann",), "ben", "", ""), 0))

    def test_advice_lets_no_deed_cost_less_than_left_falls(self):
        chance = random.Random(590)
        for house, _ in some_games(chance, 30, most=40):
            desk = Desk(house)
            for _ in range(8):
                if desk.standing_now is None or desk.left is None:
                    break
                left, move = desk.left, desk.advice()
                found = [row[0] for row in outcomes(desk.house_now, desk.standing_now, move)]
                if not found:
                    break
                desk.lend(move)
                price = desk.do(chance.choice(found))
                self.assertTrue(desk.left is None or price >= left - desk.left)

    def test_log(self):
        desk = Desk(DAY)
        self.assertEqual(list(desk.log()), [])
        desk.several(("lend", "ann"), ("do", KEEP), ("lend", ""))
        self.assertEqual(list(desk.log()), [(FREE, "ann", KEEP, 3)])
        self.assertEqual(next(desk.log()), (FREE, "ann", KEEP, 3))
        desk.do(BREAK)
        self.assertEqual([row for row in desk.log()], [(FREE, "ann", KEEP, 3), (LATE, "", BREAK, 0)])
        desk.undo()
        self.assertEqual(len(list(desk.log())), 1)


class TrialTest(DeskCase):
    def test_block(self):
        desk = Desk(DAY)
        desk.put(("day",))
        desk.lend("ann")
        desk.undo()
        before = all_seen(desk)
        with desk.trial() as same:
            self.assertIs(same, desk)
            self.assertEqual(all_seen(desk), before)
            desk.amend("day", deposit=7)
            desk.several(("lend", "ann"), ("do", (("ann",), "ann", "day", "mon")))
            self.assertEqual((desk.spent, desk.undoable), (7, 3))
        self.assertEqual(all_seen(desk), before)
        desk.redo()
        self.assertEqual(desk.move_now, "ann")

    def test_block_with_an_error(self):
        desk = Desk(DAY)
        desk.put(())
        before = all_seen(desk)
        for error in (KeyError("x"), NoLink(3), errors.DeskOver()):
            with self.assertRaises(type(error)) as caught:
                with desk.trial():
                    desk.lend("ann")
                    raise error
            self.assertIs(caught.exception, error)
            self.assertEqual(all_seen(desk), before)
        with self.assertRaises(NoMove):
            with desk.trial() as same:
                same.lend("x")
        self.assertEqual(all_seen(desk), before)

    def test_undo_redo_and_memory_inside(self):
        desk = Desk(DAY, memory=5)
        for _ in range(7):
            desk.put(())
        desk.undo()
        before = all_seen(desk)
        with desk.trial():
            desk.undo()
            desk.undo()
            desk.put(("day",))
            desk.memory = 1
            desk.remember(0)
            self.assertEqual((desk.undoable, desk.memory), (0, 0))
        self.assertEqual(all_seen(desk), before)
        with desk.trial():
            desk.redo()
            desk.remember(100)
        self.assertEqual(all_seen(desk), before)

    def test_trials_in_trials(self):
        desk = Desk(DAY)
        with desk.trial():
            desk.lend("ann")
            inner = all_seen(desk)
            with desk.trial() as same:
                same.do(KEEP)
                with same.trial():
                    same.lend("")
                    same.do(BREAK)
                    self.assertEqual(desk.left, 0)
                self.assertEqual(desk.standing_now, LATE)
            self.assertEqual(all_seen(desk), inner)
        self.assertEqual(seen(desk), seen(Desk(DAY)))

    def test_the_block_counts_not_the_call(self):
        desk = Desk(DAY)
        trial = desk.trial()
        desk.lend("ann")
        with trial:
            desk.do(KEEP)
        self.assertEqual((desk.move_now, desk.undoable), ("ann", 1))

    def test_two_desks(self):
        desk, other = Desk(DAY), Desk(DAY)
        with desk.trial():
            other.lend("ben")
            desk.lend("ann")
        self.assertEqual((desk.move_now, other.move_now), (None, "ben"))


class RandomTest(DeskCase):
    """Random steps at desks and at the model, which must show the same at each moment."""

    def test_at_random(self):
        chance = random.Random(580)
        self.many = {}
        houses = [house for house, _ in some_games(chance, 60, most=60, fewest=4)] + [small_house()] * 15
        for house in houses:
            start = chance.choice([None, *house.book.starts])
            memory = chance.choice([0, 1, 2, 5, 20])
            desk, model = Desk(house, start=start, memory=memory), Model(house, start, memory)
            for _ in range(80):
                self.one_step(chance, desk, model)
                self.assertEqual(seen(desk), model.seen())
        expected = "BadNumber BadStanding DeskOver MoveWaits NoDeed NoMove NoMoveWaits NothingToRedo NothingToUndo PagesFollow UnknownName"
        self.assertLessEqual(set(expected.split()), set(self.many), self.many)

    def both(self, call, hand):
        """Both return the same, or raise the same error."""
        try:
            expected = hand()
        except HouseError as error:
            self.many[type(error).__name__] = self.many.get(type(error).__name__, 0) + 1
            self.fails(type(error), vars(error), call)
            return
        found = call()
        self.assertEqual(found, expected)
        self.assertIs(type(found), type(expected))

    def one_step(self, chance, desk, model):
        kind = chance.choice(["step"] * 9 + ["amend"] + ["several", "several", "amend", "undo", "undo", "redo", "redo", "remember", "ask", "trial", "tried"])
        if model.now["standing"] is None and model.past and chance.random() < 0.7:
            kind = "undo"
        if kind == "step":
            name, *told = some_deed(chance, model.now)
            self.both(lambda: getattr(desk, name)(*told), lambda: model.step((name, *told))[0])
        elif kind == "several":
            deeds = some_deeds(chance, model)
            self.both(lambda: desk.several(*deeds), lambda: model.step(*deeds))
        elif kind == "amend":
            rule, parts = some_change(chance, model.now)
            self.both(lambda: desk.amend(rule, **parts), lambda: model.step(("amend", rule, parts))[0])
        elif kind == "remember":
            number = chance.choice([0, 1, 2, 3, 20, 100, 101, -1])
            self.both(lambda: desk.remember(number), lambda: model.remember(number))
        elif kind == "ask":
            for name in ("advice", "threat"):
                self.both(getattr(desk, name), getattr(model, name))
        elif kind == "trial":
            before = all_seen(desk)
            kept = (model.now, list(model.past), list(model.future), model.bound)
            with desk.trial():
                for _ in range(chance.randint(0, 4)):
                    self.one_step(chance, desk, model)
                    self.assertEqual(seen(desk), model.seen())
            model.now, model.past, model.future, model.bound = kept
            self.assertEqual(all_seen(desk), before)
        elif kind == "tried":
            deeds = some_deeds(chance, model)
            kept = (model.now, list(model.past), list(model.future), model.bound)
            before = all_seen(desk)

            def hand():
                model.step(*deeds)
                _, standing, move, fault, spent, left, _, _, _ = model.seen()
                return (standing, move, fault, spent, left)

            self.both(lambda: desk.tried(*deeds), hand)
            model.now, model.past, model.future, model.bound = kept
            self.assertEqual(all_seen(desk), before)
        else:
            self.both(getattr(desk, kind), getattr(model, kind))


if __name__ == "__main__":
    unittest.main()
