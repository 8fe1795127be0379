"""Books, pages and walks [23 to 25]."""

import itertools
import random
import unittest

from helpers import Case
from making import some_book
from turnsandkeys.errors import BadBook, BadCount, BadName, BadNumber, DoubledName, UnknownPage
from turnsandkeys.pages import Book, Page

MEMBERS = ["ben", "ann", "cid"]
PAGES = [
    ("mon", [("cid", 0), ("ben", 7)], ["tue", "mon"]),
    ("tue", [], ["wed"]),
    ("wed", [("ann", 10 ** 9)], []),
]
STARTS = ["tue", "mon"]
HOME = ["wed", "mon"]


def changed_page(at, page):
    return [*PAGES[:at], page, *PAGES[at + 1:]]


class BookTest(Case):
    def test_attributes(self):
        book = Book(MEMBERS, PAGES, STARTS, home=HOME)
        self.assertEqual(book.members, ("ben", "ann", "cid"))
        self.assertEqual(book.names, ("mon", "tue", "wed"))
        self.assertEqual(book.starts, ("tue", "mon"))
        self.assertEqual(book.home, ("mon", "wed"))
        self.assertEqual(len(book), 3)

    def test_pages(self):
        book = Book(MEMBERS, PAGES, STARTS, home=HOME)
        found = [(page.name, page.bids, page.wishers, page.followers, page.home) for page in book]
        self.assertEqual(found, [
            ("mon", (("ben", 7), ("cid", 0)), ("ben", "cid"), ("tue", "mon"), True),
            ("tue", (), (), ("wed",), False),
            ("wed", (("ann", 10 ** 9),), ("ann",), (), True),
        ])
        self.assertTrue(all(type(page) is Page for page in book))
        self.assertEqual([(a.name, b.name) for a in book for b in book], list(itertools.product(book.names, repeat=2)))

    def test_page(self):
        book = Book(MEMBERS, PAGES, STARTS)
        self.assertEqual(book.page("tue").followers, ("wed",))
        self.assertEqual(book.page(name="wed").wishers, ("ann",))
        self.assertEqual([page.home for page in book], [False, False, False])
        self.assertEqual(book.home, ())
        for name in ("", "ben", "mo", "MON"):
            self.fails(UnknownPage, {"name": name}, book.page, name)

    def test_parameters(self):
        self.has_parameters(Book, "members", "pages", "starts", "*", "home=()")
        self.has_parameters(Book.page, "self", "name")
        self.has_parameters(Book.is_walk, "self", "names")
        self.has_parameters(Book.walks, "self", "rounds")
        self.has_parameters(Book.count_walks, "self", "rounds")
        tuples = tuple((name, tuple(bids), tuple(followers)) for name, bids, followers in PAGES)
        book = Book(members=tuple(MEMBERS), pages=tuples, starts=tuple(STARTS), home=tuple(HOME))
        self.assertEqual(book, Book(MEMBERS, PAGES, STARTS, home=HOME))

    def test_copies_and_keeps_lists(self):
        members, starts, home = list(MEMBERS), list(STARTS), list(HOME)
        pages = [(name, list(bids), list(followers)) for name, bids, followers in PAGES]
        book = Book(members, pages, starts, home=home)
        self.assertEqual((members, pages, starts, home), (MEMBERS, PAGES, STARTS, HOME))
        pages[0][1].append(("ann", 3))
        pages[1][2].clear()
        for row in (members, pages, starts, home):
            row.reverse()
        self.assertEqual(book, Book(MEMBERS, PAGES, STARTS, home=HOME))
        self.assertEqual(book.page("mon").wishers, ("ben", "cid"))
        self.assertEqual(book.page("tue").followers, ("wed",))

    def test_equality(self):
        book = Book(MEMBERS, PAGES, STARTS, home=HOME)
        same = Book(MEMBERS, changed_page(0, ("mon", [("ben", 7), ("cid", 0)], ["tue", "mon"])), STARTS, home=HOME[::-1])
        self.assertIs(book == same, True)
        self.assertIs(book != same, False)
        others = [
            Book(MEMBERS[::-1], PAGES, STARTS, home=HOME),
            Book([*MEMBERS, "dan"], PAGES, STARTS, home=HOME),
            Book(MEMBERS, PAGES[::-1], STARTS, home=HOME),
            Book(MEMBERS, [*PAGES, ("thu", [], [])], STARTS, home=HOME),
            Book(MEMBERS, PAGES, STARTS[::-1], home=HOME),
            Book(MEMBERS, PAGES, STARTS[:1], home=HOME),
            Book(MEMBERS, PAGES, STARTS, home=HOME[:1]),
            Book(MEMBERS, PAGES, STARTS),
            Book(MEMBERS, changed_page(0, ("mon", [("ben", 6), ("cid", 0)], ["tue", "mon"])), STARTS, home=HOME),
            Book(MEMBERS, changed_page(0, ("mon", [("ben", 7)], ["tue", "mon"])), STARTS, home=HOME),
            Book(MEMBERS, changed_page(0, ("mon", [("ben", 7), ("cid", 0)], ["mon", "tue"])), STARTS, home=HOME),
            Book(MEMBERS, changed_page(1, ("tue", [], [])), STARTS, home=HOME),
        ]
        for other in others:
            self.assertIs(book == other, False)
        renamed = Book(["ben"], [("mon", [], [])], ["mon"])
        self.assertIs(renamed == Book(["ben"], [("tue", [], [])], ["tue"]), False)
        for other in (None, 3, "book", tuple(book), list(book)):
            self.assertIs(book == other, False)


class ChecksTest(Case):
    def wrong(self, part, place, *args, **named):
        self.fails(BadBook, {"part": part, "place": place}, Book, *args, **named)

    def test_members_come_first(self):
        self.fails(BadCount, {"size": 0}, Book, [], [], [])
        self.fails(BadCount, {"size": 5}, Book, ["a", "b", "c", "d", ""], [], [])
        self.fails(BadName, {"name": "Ann"}, Book, ["ann", "Ann"], [], [])
        self.fails(BadName, {"name": ""}, Book, ["ann", ""], [], [])
        self.fails(DoubledName, {"name": "ann"}, Book, ["ann", "ann"], [], [])
        self.assertEqual(len(Book(["a", "b", "c", "d"], [("mon", [], [])], ["mon"]).members), 4)

    def test_number_of_pages(self):
        self.wrong("pages", 0, MEMBERS, [], [], home=["x"])
        five = [(name, [], []) for name in ("", "b", "c", "d", "e")]
        self.wrong("pages", 0, MEMBERS, five, [])
        self.assertEqual(len(Book(MEMBERS, [(name, [], []) for name in "abcd"], ["d"])), 4)

    def test_page(self):
        for at in range(3):
            _, bids, followers = PAGES[at]
            for wrong in ("", "Mon", "mondaymon", "a b"):
                self.wrong("page", at, MEMBERS, changed_page(at, (wrong, bids, followers)), [], home=["x"])
        self.wrong("page", 1, MEMBERS, changed_page(1, ("mon", [], ["wed"])), [])
        self.wrong("page", 2, MEMBERS, changed_page(2, ("mon", [], ["x"])), [])
        wrong_bids = [
            [("dan", 1)], [("", 1)], [("ben", 1), ("ben", 1)], [("ben", 1), ("ann", 2), ("ben", 3)],
            [("ben", -1)], [("ben", 10 ** 9 + 1)], [("ann", 0), ("ben", 10 ** 59)],
        ]
        for at in range(3):
            for bids in wrong_bids:
                self.wrong("page", at, MEMBERS, changed_page(at, (PAGES[at][0], bids, ["x"])), [])

    def test_first_page_of_several(self):
        pages = [("mon", [], ["x"]), ("Tue", [], []), ("wed", [("dan", 1)], [])]
        self.wrong("page", 1, MEMBERS, pages, [])
        self.wrong("page", 1, MEMBERS, [pages[0], ("tue", [("ben", -1)], []), pages[2]], [])

    def test_followers(self):
        for at in range(3):
            for followers in (["x"], ["mon", "mon"], ["mon", "tue", "mon"], [""], ["ben"], ["mon", "tue", "wed", "thu"]):
                self.wrong("followers", at, MEMBERS, changed_page(at, (PAGES[at][0], [], followers)), [], home=["x"])
        pages = [("mon", [], ["mon"]), ("tue", [], ["x"]), ("wed", [], ["y"])]
        self.wrong("followers", 1, MEMBERS, pages, ["mon"])
        self.wrong("page", 2, MEMBERS, [("mon", [], ["x"]), ("tue", [], []), ("tue", [], [])], ["mon"])

    def test_starts(self):
        for starts in ([], ["x"], ["mon", "x"], ["mon", "mon"], ["mon", "tue", "mon"], [""], ["ben"]):
            self.wrong("starts", 0, MEMBERS, PAGES, starts, home=["x"])

    def test_home(self):
        for home in (["x"], ["mon", "x"], ["mon", "mon"], ["mon", "tue", "mon"], [""], ["ben"]):
            self.wrong("home", 0, MEMBERS, PAGES, STARTS, home=home)

    def test_nothing_changes_after_an_error(self):
        pages, starts, home = list(PAGES), list(STARTS), ["wed", "x"]
        self.wrong("home", 0, MEMBERS, pages, starts, home=home)
        self.assertEqual((pages, starts, home), (PAGES, STARTS, ["wed", "x"]))

    def test_pages_with_names_of_members(self):
        book = Book(["ann", "ben"], [("ben", [("ann", 1)], ["ann"]), ("ann", [], [])], ["ben"], home=["ann"])
        self.assertEqual(book.names, ("ben", "ann"))
        self.assertEqual(book.page("ben").wishers, ("ann",))


class WalksTest(Case):
    def test_is_walk(self):
        book = Book(MEMBERS, PAGES, STARTS)
        for names in ([], ["tue"], ["mon"], ["mon", "mon", "tue", "wed"], ("tue", "wed"), ()):
            self.assertIs(book.is_walk(names), True)
        wrong = (["wed"], ["mon", "wed"], ["tue", "tue"], ["tue", "wed", "mon"], ["x"], ["mon", "x"], ["mon", ""], ["x", "mon"], ("ben",))
        for names in wrong:
            self.assertIs(book.is_walk(names), False)
        names = ["mon", "tue"]
        self.assertIs(book.is_walk(names=names), True)
        self.assertEqual(names, ["mon", "tue"])

    def test_walks_by_hand(self):
        book = Book(MEMBERS, PAGES, STARTS)
        self.assertEqual(list(book.walks(0)), [[]])
        self.assertEqual(list(book.walks(1)), [["tue"], ["mon"]])
        self.assertEqual(list(book.walks(rounds=2)), [["tue", "wed"], ["mon", "tue"], ["mon", "mon"]])
        self.assertEqual(list(book.walks(3)), [["mon", "tue", "wed"], ["mon", "mon", "tue"], ["mon", "mon", "mon"]])
        ended = Book(MEMBERS, PAGES[2:], ["wed"])
        self.assertEqual([list(ended.walks(rounds)) for rounds in range(3)], [[[]], [["wed"]], []])

    def test_walks_against_all_rows(self):
        chance = random.Random(250)
        for _ in range(40):
            book = some_book(chance, ["ann"], most=4)
            for rounds in range(5):
                expected = [list(row) for row in itertools.product(book.names, repeat=rounds) if book.is_walk(row)]
                found = list(book.walks(rounds))
                self.assertEqual(sorted(found), sorted(expected))
                self.assertEqual(book.count_walks(rounds), len(expected))
                self.assertEqual(found, sorted(found, key=lambda row: places(book, row)))

    def test_first_few_of_very_many(self):
        names = ["a", "b", "c", "d"]
        book = Book(["ann"], [(name, [], names[::-1]) for name in names], names)
        few = list(itertools.islice(book.walks(20), 5))
        self.assertEqual([row[:19] for row in few], [["a"] + ["d"] * 18] * 4 + [["a"] + ["d"] * 17 + ["c"]])
        self.assertEqual([row[19] for row in few], ["d", "c", "b", "a", "d"])
        self.assertEqual(book.count_walks(20), 4 ** 20)

    def test_walks_are_new_lists(self):
        book = Book(MEMBERS, PAGES, STARTS)
        found = []
        for walk in book.walks(3):
            found.append(list(walk))
            walk.clear()
        self.assertEqual(found, list(book.walks(3)))

    def test_walks_side_by_side(self):
        book = Book(MEMBERS, PAGES, STARTS)
        pairs = [(first, second) for first in book.walks(2) for second in book.walks(1)]
        self.assertEqual(len(pairs), 6)

    def test_count_walks(self):
        book = Book(MEMBERS, PAGES, STARTS)
        self.assertEqual([book.count_walks(rounds) for rounds in (0, 1, 2, 3, 200)], [1, 2, 3, 3, 3])
        both = Book(["ann"], [("a", [], ["a", "b"]), ("b", [], ["a", "b"])], ["a"])
        self.assertEqual(both.count_walks(rounds=200), 2 ** 199)
        self.assertEqual(Book(["ann"], [("a", [], [])], ["a"]).count_walks(2), 0)
        for rounds in (-1, 201, 10 ** 59, -(10 ** 59)):
            self.fails(BadNumber, {"number": rounds}, book.count_walks, rounds)


def places(book, row):
    """The place of the first page among the starts, then of each page among the followers."""
    nexts = book.starts
    found = []
    for name in row:
        found.append(nexts.index(name))
        nexts = book.page(name).followers
    return found


if __name__ == "__main__":
    unittest.main()
