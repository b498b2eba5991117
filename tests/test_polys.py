"""Points 92 and 93, with 5, and the interface of sumwires.polys."""

import unittest

from reckon import LISTS, THINGS, draw
from sumwires.errors import BadMask, WireError
from sumwires.polys import common, divided, factors, order_of, times


def product(one, other):
    told = 0
    for place in range(one.bit_length()):
        if one >> place & 1:
            told ^= other << place
    return told


def rest_of(one, other):
    while one.bit_length() >= other.bit_length():
        one ^= other << one.bit_length() - other.bit_length()
    return one


def sieve(most):
    """All polynomials of a degree from 1 to most that are no product, by striking out all products."""
    struck = set()
    for one in range(2, 2 ** (most + 1)):
        for other in range(2, one + 1):
            if one.bit_length() + other.bit_length() - 2 <= most:
                struck.add(product(one, other))
    return [one for one in range(2, 2 ** (most + 1)) if one not in struck]


class Asking(unittest.TestCase):
    def refused(self, call, *things):
        with self.assertRaises(WireError) as caught:
            call(*things)
        self.assertIs(type(caught.exception), BadMask)


class TimesTest(Asking):
    def test_small_ones(self):
        for one in range(40):
            for other in range(40):
                self.assertEqual(times(one, other), product(one, other))
        self.assertEqual(times(3, 3), 5)
        self.assertEqual(times(7, 3), 9)
        self.assertIs(type(times(0, 0)), int)

    def test_0_and_1(self):
        for poly in (0, 1, 2, 3, 2 ** 100 - 1, 2 ** 99 + 1):
            self.assertEqual((times(0, poly), times(poly, 0)), (0, 0))
            self.assertEqual((times(1, poly), times(poly, 1)), (poly, poly))

    def test_up_to_the_bounds(self):
        chance = draw(71)
        for _ in range(100):
            one, other, third = [chance.randrange(2 ** 100) for _ in range(3)]
            self.assertEqual(times(one=one, other=other), product(one, other))
            self.assertEqual(times(one, other), times(other, one))
            self.assertEqual(times(one, other ^ third), times(one, other) ^ times(one, third))
        self.assertEqual(times(2 ** 99, 2 ** 99), 2 ** 198)


class DividedTest(Asking):
    def holds(self, one, other):
        told = divided(one, other)
        self.assertEqual([type(told)] + [type(part) for part in told], [tuple, int, int])
        quotient, rest = told
        self.assertTrue(quotient >= 0 and rest >= 0)
        self.assertEqual(product(quotient, other) ^ rest, one)
        self.assertTrue(rest == 0 or rest.bit_length() < other.bit_length())

    def test_small_ones(self):
        for one in range(70):
            for other in range(1, 70):
                self.holds(one, other)

    def test_0_and_1(self):
        self.assertEqual(divided(0, 1), (0, 0))
        self.assertEqual(divided(1, 1), (1, 0))
        self.assertEqual(divided(0, 5), (0, 0))
        self.assertEqual(divided(1, 5), (0, 1))
        self.assertEqual(divided(2 ** 200 - 1, 1), (2 ** 200 - 1, 0))
        self.assertEqual(divided(one=5, other=5), (1, 0))

    def test_up_to_the_bounds(self):
        chance = draw(72)
        for width in (1, 2, 10, 100, 199, 200):
            for _ in range(20):
                self.holds(chance.randrange(2 ** 200), 1 + chance.randrange(2 ** width - 1))
        self.holds(2 ** 200 - 1, 2 ** 199)
        self.holds(2 ** 199, 2 ** 200 - 1)

    def test_by_0(self):
        for one in (0, 1, 5, 2 ** 200 - 1):
            self.refused(divided, one, 0)


class CommonTest(Asking):
    def test_0(self):
        self.assertEqual(common(0, 0), 0)
        for poly in (1, 2, 3, 7, 2 ** 200 - 1):
            self.assertEqual((common(0, poly), common(poly, 0)), (poly, poly))

    def test_1(self):
        for poly in (1, 2, 3, 2 ** 200 - 1):
            self.assertEqual((common(1, poly), common(poly, 1)), (1, 1))

    def test_small_ones_by_trying_all(self):
        for one in range(1, 70):
            for other in range(1, 70):
                both = [poly for poly in range(1, 70) if rest_of(one, poly) == 0 and rest_of(other, poly) == 0]
                told = common(one, other)
                self.assertIs(type(told), int)
                self.assertEqual(told, max(both))
                self.assertEqual([poly for poly in both if poly.bit_length() == told.bit_length()], [told])

    def test_great_ones(self):
        chance = draw(73)
        for _ in range(60):
            shared = 1 + chance.randrange(2 ** 60 - 1)
            one, other = [product(shared, 1 + chance.randrange(2 ** 130 - 1)) for _ in range(2)]
            told = common(one=one, other=other)
            self.assertEqual((rest_of(one, told), rest_of(other, told), rest_of(told, shared)), (0, 0, 0))
        self.assertEqual(common(2 ** 199, 2 ** 150 + 2 ** 149), 2 ** 149)


class FactorsTest(Asking):
    def holds(self, poly, primes):
        told = factors(poly)
        self.assertIs(type(told), list)
        whole = 1
        for one in told:
            self.assertEqual([type(one)] + [type(part) for part in one], [tuple, int, int])
            self.assertIn(one[0], primes)
            self.assertGreaterEqual(one[1], 1)
            for _ in range(one[1]):
                whole = product(whole, one[0])
        self.assertEqual(whole, poly)
        self.assertEqual([one[0] for one in told], sorted({one[0] for one in told}))
        return told

    def test_all_of_small_degrees(self):
        primes = set(sieve(8))
        for poly in range(2, 2 ** 9):
            told = self.holds(poly, primes)
            self.assertEqual(poly in primes, told == [(poly, 1)])

    def test_by_hand(self):
        self.assertEqual(factors(2), [(2, 1)])
        self.assertEqual(factors(3), [(3, 1)])
        self.assertEqual(factors(5), [(3, 2)])
        self.assertEqual(factors(6), [(2, 1), (3, 1)])
        self.assertEqual(factors(7), [(7, 1)])
        self.assertEqual(factors(poly=9), [(3, 1), (7, 1)])
        self.assertEqual(factors(2 ** 15 | 1), [(3, 1), (7, 1), (19, 1), (25, 1), (31, 1)])

    def test_powers(self):
        for count in range(1, 17):
            self.assertEqual(factors(2 ** count), [(2, count)])
        poly = 1
        for count in range(1, 17):
            poly = product(poly, 3)
            self.assertEqual(factors(poly), [(3, count)])
        poly = 1
        for count in range(1, 9):
            poly = product(poly, 7)
            self.assertEqual(factors(poly), [(7, count)])
        self.assertEqual(factors(product(283, 283)), [(283, 2)])
        self.assertEqual(factors(product(283, 285)), [(283, 1), (285, 1)])

    def test_of_degree_16(self):
        primes = set(sieve(8))
        for seed in range(60):
            poly = 2 ** 16 + draw(seed).randrange(2 ** 16)
            told = factors(poly)
            whole = 1
            for one, power in told:
                degree = one.bit_length() - 1
                self.assertTrue(one in primes or degree > 8)
                small = [prime for prime in primes if 2 * (prime.bit_length() - 1) <= degree]
                self.assertEqual([prime for prime in small if rest_of(one, prime) == 0], [])
                for _ in range(power):
                    whole = product(whole, one)
            self.assertEqual(whole, poly)
        self.assertEqual(factors(2 ** 17 - 1), self.holds_product(2 ** 17 - 1))
        self.assertEqual(factors(0x1002d), [(0x1002d, 1)])

    def holds_product(self, poly):
        told = factors(poly)
        whole = 1
        for one, power in told:
            for _ in range(power):
                whole = product(whole, one)
        self.assertEqual(whole, poly)
        return told

    def test_refused(self):
        for thing in THINGS + LISTS + [0, 1, 2 ** 17, 2 ** 17 + 1, 2 ** 100]:
            with self.subTest(thing=thing):
                self.refused(factors, thing)

    def test_told_lists_are_new(self):
        factors(6).append((7, 1))
        self.assertEqual(factors(6), [(2, 1), (3, 1)])


class OrderTest(Asking):
    def test_small_degrees_by_trying_all(self):
        for poly in range(3, 2 ** 9, 2):
            count = 1
            while rest_of(2 ** count, poly) != 1:
                count += 1
            self.assertEqual(order_of(poly), count)
            self.assertIs(type(order_of(poly)), int)

    def test_by_hand(self):
        self.assertEqual(order_of(3), 1)
        self.assertEqual(order_of(5), 2)
        self.assertEqual(order_of(7), 3)
        self.assertEqual(order_of(poly=2 ** 16 | 1), 16)
        self.assertEqual(order_of(2 ** 17 - 1), 17)
        self.assertEqual(order_of(0x1002d), 65535)

    def test_of_great_degrees(self):
        for seed in range(8):
            poly = 2 ** 16 + 1 + 2 * draw(seed).randrange(2 ** 15)
            count = order_of(poly)
            power, powers = 1, []
            for _ in range(count):
                power = rest_of(power << 1, poly)
                powers.append(power)
            self.assertEqual((powers[-1], powers.count(1)), (1, 1))

    def test_refused(self):
        for thing in THINGS + LISTS + [0, 1, 2, 4, 6, 2 ** 16, 2 ** 17 - 2, 2 ** 17, 2 ** 17 + 1, -3, 2 ** 100 + 1]:
            with self.subTest(thing=thing):
                self.refused(order_of, thing)


if __name__ == "__main__":
    unittest.main()
