"""Guests and their lots [21, 22]."""

import itertools
import math
import random
import unittest
from fractions import Fraction

from helpers import Case
from making import some_guests
from turnsandkeys.errors import BadCount, BadLot, BadNumber
from turnsandkeys.guests import Guests

OFFERS = [(10, 2), (3, 1), (6, 3)]


def all_lots(guests, most=None):
    numbers = range(len(guests.offers))
    sizes = range(len(guests.offers) + 1) if most is None else range(min(most, len(guests.offers)) + 1)
    return [lot for size in sizes for lot in itertools.combinations(numbers, size)]


def fraction(pair):
    top, bottom = pair
    return Fraction(top, bottom)


def mean_by_hand(guests, lot):
    shown = [guests.offers[number] for number in lot]
    return Fraction(sum(charge * weight for charge, weight in shown), guests.aside + sum(weight for _, weight in shown))


def excess(guests, number, rate):
    charge, weight = guests.offers[number]
    return weight * (charge - rate)


def picked_by_hand(guests, rate, most):
    """The lot that a rate picks, one offer after the other."""
    left = [number for number in range(len(guests.offers)) if excess(guests, number, rate) > 0]
    lot = []
    while left and (most is None or len(lot) < most):
        best = left[0]
        for number in left:
            if excess(guests, number, rate) > excess(guests, best, rate):
                best = number
        lot.append(best)
        left.remove(best)
    return tuple(sorted(lot))


class MakingTest(Case):
    def test_kinds(self):
        guests = Guests(OFFERS, 4)
        self.assertEqual((guests.offers, guests.aside), (tuple(OFFERS), 4))
        self.assertIs(type(guests.offers), tuple)
        self.has_parameters(Guests, "offers", "aside")
        self.has_parameters(Guests.mean, "self", "lot")
        self.has_parameters(Guests.best, "self", "*", "most=None")
        self.has_parameters(Guests.climb, "self", "*", "most=None")
        self.assertIsInstance(vars(Guests)["floor"], property)
        self.assertEqual(Guests(aside=4, offers=tuple(OFFERS)), guests)

    def test_copies_and_keeps_lists(self):
        offers = list(OFFERS)
        guests = Guests(offers, 4)
        self.assertEqual(offers, OFFERS)
        offers.append((1, 1))
        offers[0] = (99, 9)
        self.assertEqual(guests, Guests(OFFERS, 4))
        self.assertEqual(guests.best(), ((0, 2), (38, 9)))

    def test_edges(self):
        self.assertEqual(Guests([], 1).offers, ())
        guests = Guests([(0, 1), (10 ** 6, 1000)] * 4, 1000)
        self.assertEqual(len(guests.offers), 8)
        self.assertEqual(guests.floor, 800000)

    def test_checks_in_order(self):
        self.fails(BadCount, {"size": 9}, Guests, [(-1, 0)] * 9, 0)
        for charge in (-1, 10 ** 6 + 1, 10 ** 59, -(10 ** 59)):
            self.fails(BadNumber, {"number": charge}, Guests, [(0, 1), (charge, 0), (-5, 1)], 0)
        for weight in (0, -1, 1001):
            self.fails(BadNumber, {"number": weight}, Guests, [(0, 1), (10 ** 6, weight), (-5, 1)], 0)
        self.fails(BadNumber, {"number": 1001}, Guests, [(0, 1001), (-1, 1)], 0)
        for aside in (0, -1, 1001):
            self.fails(BadNumber, {"number": aside}, Guests, OFFERS, aside)
            self.fails(BadNumber, {"number": aside}, Guests, [], aside)

    def test_equality(self):
        guests = Guests(OFFERS, 4)
        self.assertIs(guests == Guests(tuple(OFFERS), 4), True)
        self.assertIs(guests != Guests(OFFERS, 4), False)
        for other in (Guests(OFFERS, 5), Guests(OFFERS[:2], 4), Guests(OFFERS[::-1], 4), Guests([(10, 2), (3, 1), (6, 4)], 4)):
            self.assertIs(guests == other, False)
        for other in (None, 4, "guests", tuple(OFFERS), (tuple(OFFERS), 4)):
            self.assertIs(guests == other, False)


class MeanTest(Case):
    def test_by_hand(self):
        guests = Guests(OFFERS, 4)
        self.assertEqual(guests.mean(()), (0, 1))
        self.assertEqual(guests.mean((0, 2)), (38, 9))
        self.assertEqual(guests.mean((0,)), (10, 3))
        self.assertEqual(guests.mean(lot=(0, 1, 2)), (41, 10))
        self.assertEqual(Guests([(0, 5)], 7).mean((0,)), (0, 1))
        self.assertEqual(Guests([(4, 1)], 1).mean((0,)), (2, 1))

    def test_all_lots(self):
        chance = random.Random(210)
        for _ in range(60):
            guests = some_guests(chance)
            for lot in all_lots(guests):
                top, bottom = guests.mean(lot)
                self.assertIs(type(guests.mean(lot)), tuple)
                self.assertEqual(Fraction(top, bottom), mean_by_hand(guests, lot))
                self.assertEqual(math.gcd(top, bottom), 1)
                self.assertGreaterEqual(bottom, 1)

    def test_no_lot(self):
        guests = Guests(OFFERS, 4)
        for lot in ((1, 0), (0, 0), (3,), (-1,), (-1, 0), (0, 2, 2), (0, 1, 2, 3), (2, 1, 0), (10 ** 59,), (-3, -2, -1)):
            self.fails(BadLot, {"lot": lot}, guests.mean, lot)
        self.fails(BadLot, {"lot": (0,)}, Guests([], 1).mean, (0,))
        self.assertEqual(guests, Guests(OFFERS, 4))


class BestTest(Case):
    def test_against_all_lots(self):
        chance = random.Random(220)
        for _ in range(150):
            guests = some_guests(chance, offers=5, charge=chance.choice([2, 9, 50]), weight=chance.choice([1, 4]))
            for most in (None, *range(len(guests.offers) + 3)):
                lot, mean = guests.best(most=most)
                greatest = max(mean_by_hand(guests, other) for other in all_lots(guests, most))
                self.assertEqual(fraction(mean), greatest)
                self.assertEqual(guests.mean(lot), mean)
                self.assertEqual(lot, picked_by_hand(guests, greatest, most))
                rest = sum(excess(guests, number, greatest) for number in lot)
                self.assertEqual(rest, guests.aside * greatest)

    def test_equal_excesses(self):
        guests = Guests([(6, 1), (6, 1), (6, 1)], 3)
        self.assertEqual(guests.best(most=1), ((0,), (3, 2)))
        self.assertEqual(guests.best(most=2), ((0, 1), (12, 5)))
        # At the rate 4, the greatest mean for one offer, both offers have the excess 4.
        guests = Guests([(6, 2), (8, 1)], 1)
        self.assertEqual(guests.mean((0,)), (4, 1))
        self.assertEqual(guests.mean((1,)), (4, 1))
        self.assertEqual(guests.best(most=1), ((0,), (4, 1)))
        guests = Guests([(8, 1), (6, 2)], 1)
        self.assertEqual(guests.best(most=1), ((0,), (4, 1)))

    def test_no_excess_is_not_shown(self):
        # The second offer has the excess 0 at the greatest mean.
        guests = Guests([(8, 1), (4, 1)], 1)
        self.assertEqual(guests.mean((0, 1)), (4, 1))
        self.assertEqual(guests.best(), ((0,), (4, 1)))
        self.assertEqual(Guests([(0, 1), (0, 5)], 1).best(), ((), (0, 1)))

    def test_no_offers(self):
        self.assertEqual(Guests([], 5).best(), ((), (0, 1)))
        self.assertEqual(Guests(OFFERS, 5).best(most=0), ((), (0, 1)))

    def test_wrong_most(self):
        guests = Guests(OFFERS, 4)
        self.assertEqual(guests.best(most=10 ** 59), guests.best())
        for most in (-1, -(10 ** 59)):
            self.fails(BadNumber, {"number": most}, guests.best, most=most)
        self.assertEqual(guests.best(), ((0, 2), (38, 9)))


class ClimbTest(Case):
    def test_by_hand(self):
        guests = Guests(OFFERS, 4)
        self.assertEqual(list(guests.climb()), [((0, 1), (0, 1, 2)), ((41, 10), (0, 2)), ((38, 9), (0, 2))])
        self.assertEqual(list(guests.climb(most=0)), [((0, 1), ())])
        self.assertEqual(list(Guests([], 4).climb()), [((0, 1), ())])

    def test_at_random(self):
        chance = random.Random(221)
        for _ in range(200):
            guests = some_guests(chance, offers=8, charge=60, weight=9)
            most = chance.choice([None, 0, 1, 2, 3, 20])
            pairs = list(guests.climb(most=most))
            self.assertEqual(pairs[0][0], (0, 1))
            for rate, lot in pairs:
                self.assertEqual(lot, picked_by_hand(guests, fraction(rate), most))
            for (rate, lot), (later, _) in zip(pairs, pairs[1:]):
                self.assertEqual(later, guests.mean(lot))
                self.assertLess(fraction(rate), fraction(later))
            rate, lot = pairs[-1]
            self.assertEqual(guests.mean(lot), rate)
            self.assertEqual(guests.best(most=most), (lot, rate))

    def test_error_when_iterated(self):
        guests = Guests(OFFERS, 4)
        climbing = guests.climb(most=-1)
        self.fails(BadNumber, {"number": -1}, next, climbing)
        self.assertEqual(next(guests.climb(most=1)), ((0, 1), (0,)))


class FloorTest(Case):
    def test_by_hand(self):
        self.assertEqual(Guests(OFFERS, 4).floor, 5)
        self.assertEqual(Guests([(4, 1)], 1).floor, 2)
        self.assertEqual(Guests([(1, 1)], 1000).floor, 1)
        self.assertEqual(Guests([], 1).floor, 0)
        self.assertEqual(Guests([(0, 3)], 1).floor, 0)

    def test_against_all_lots(self):
        chance = random.Random(222)
        for _ in range(100):
            guests = some_guests(chance, charge=chance.choice([2, 9, 50]))
            self.assertEqual(guests.floor, math.ceil(max(mean_by_hand(guests, lot) for lot in all_lots(guests))))


if __name__ == "__main__":
    unittest.main()
