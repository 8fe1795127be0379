"""Names [4], numbers [33], and prices [3]."""

import unittest

from helpers import Case
from turnsandkeys.errors import BadCount, BadName, BadNumber, DoubledName, UnknownName
from turnsandkeys.names import arrangements, check_names, check_picks, check_range, is_name, read_number
from turnsandkeys.prices import least, plus


class NamesTest(Case):
    def test_names(self):
        for word in ("a", "z", "ann", "abcdefgh", "zzzzzzzz"):
            self.assertIs(is_name(word), True, word)
        self.assertIs(is_name(word="ann"), True)

    def test_no_names(self):
        wrong = ["", "abcdefghi", "a" * 5000, "Ann", "ann ", " ann", "an n", "a1", "7", "a-b", "a_b", "`", "{", "~", "-"]
        for word in wrong:
            self.assertIs(is_name(word), False, word)

    def test_every_sign(self):
        for code in range(32, 127):
            expected = "a" <= chr(code) <= "z"
            self.assertIs(is_name(chr(code)), expected)
            self.assertIs(is_name("a" + chr(code)), expected)

    def test_checked_as_names(self):
        check_names(["a"], 2)
        check_names(("a", "b"), 2)
        self.fails(BadCount, {"size": 0}, check_names, [], 2)
        self.fails(BadCount, {"size": 3}, check_names, ["", "", ""], 2)
        self.fails(BadName, {"name": ""}, check_names, ["a", ""], 2)
        self.fails(DoubledName, {"name": "a"}, check_names, ["a", "a", ""], 3)
        self.fails(BadName, {"name": "A"}, check_names, ["A", "A", "b", "b"], 4)

    def test_picks(self):
        check_picks((), ["a"])
        check_picks(["b", "a"], ("a", "b"))
        self.fails(DoubledName, {"name": "a"}, check_picks, ("a", "a", "x"), ["a"])
        self.fails(UnknownName, {"name": "x"}, check_picks, ("x", "a", "a"), ["a"])

    def test_ranges(self):
        check_range(0, 0, 3)
        check_range(3, 0, 3)
        self.fails(BadNumber, {"number": -1}, check_range, -1, 0, 3)
        self.fails(BadNumber, {"number": 4}, check_range, 4, 0, 3)

    def test_arrangements(self):
        self.assertEqual(arrangements([], 2), [()])
        self.assertEqual(arrangements(["b", "a"], 0), [()])
        self.assertEqual(arrangements(["c", "b", "a"], 1), [(), ("c",), ("b",), ("a",)])
        self.assertEqual(len(arrangements(["a", "b", "c", "d"], 2)), 1 + 4 + 12)
        self.assertEqual(arrangements(("b", "a"), 5), [(), ("b",), ("b", "a"), ("a",), ("a", "b")])


class NumbersTest(Case):
    def test_numbers(self):
        for number in (0, 1, 9, 10, 100, 1234567890, 9999999999):
            self.assertEqual(read_number(str(number)), number)
        self.assertEqual(read_number(word="42"), 42)
        self.assertIs(type(read_number("0")), int)

    def test_no_numbers(self):
        wrong = ["", "00", "01", "0000000000", "10000000000", "12345678901", "-1", "+1", "1 ", " 1", "1.0", "1_0", "a", "1a"]
        for word in [*wrong, "9" * 60, "9" * 20000, "0" * 20000, "~", "/", ":"]:
            self.assertIsNone(read_number(word), word[:30])


class PricesTest(unittest.TestCase):
    def test_sums(self):
        self.assertEqual(plus(2, 3), 5)
        for price, other in ((None, 0), (0, None), (None, None)):
            self.assertIsNone(plus(price, other))

    def test_least(self):
        self.assertIsNone(least([]))
        self.assertIsNone(least([None, None]))
        self.assertEqual(least([None, 10 ** 60, None]), 10 ** 60)
        self.assertEqual(least([3, None, 0]), 0)


if __name__ == "__main__":
    unittest.main()
