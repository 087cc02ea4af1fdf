"""Points 35 and 36: few products."""

import time
import unittest
from itertools import product
from random import Random

from undivide.cheapest import cheapest
from undivide.quotients import polynomial_of
from undivide.reckonings import is_whole, look_reckoning, products, pruned

NUMBER, LETTER = (1, 0, 0, 0, 0), (0, 1, 0, 0, 0)


def told(numbers):
    """A polynomial as it is told, by the whole numbers before its powers."""
    return tuple(((power,), (many, 1)) for power, many in enumerate(numbers) if many)


def multiplied(one, other):
    whole = [0] * 9
    for (at, many), (power, more) in product(enumerate(one), enumerate(other)):
        whole[at + power] += many * more
    assert not any(whole[5:])
    return tuple(whole[:5])


def all_mixes(*things):
    return {tuple(sum(sign * thing[k] for sign, thing in zip(signs, things)) for k in range(5))
            for signs in product((-1, 0, 1), repeat=len(things))}


def all_small():
    """What small reckonings of none, of at most one and of at most two products come to, gone through as told."""
    none = all_mixes(NUMBER, LETTER)
    firsts = {multiplied(one, other) for one in none for other in none}
    one_product, two_products = set(), set()
    for first in firsts:
        mixes = all_mixes(NUMBER, LETTER, first)
        one_product |= mixes
        for second in {multiplied(one, other) for one in mixes for other in mixes}:
            two_products |= all_mixes(NUMBER, LETTER, first, second)
    return none, one_product, two_products


class Cheapest(unittest.TestCase):
    @classmethod
    def setUpClass(cls):
        cls.none, cls.one, cls.two = all_small()

    def made(self, numbers, many):
        """What is told of a polynomial, looked at in all that holds of every one."""
        answer = cheapest(told(numbers))
        self.assertIs(type(answer), tuple, numbers)
        self.assertEqual(answer[0], many, numbers)
        reckoning = answer[1]
        self.assertIs(look_reckoning(reckoning), True)
        self.assertEqual(reckoning[0], ("x",))
        self.assertTrue(is_whole(reckoning))
        self.assertEqual(polynomial_of(reckoning), told(numbers))
        self.assertEqual(products(reckoning), many)
        self.assertEqual(products(pruned(reckoning)), many)
        return reckoning

    def test_none(self):
        self.assertEqual(len(self.none), 9)
        for numbers in sorted(self.none):
            self.made(numbers, 0)
        self.made((0, 0, 0, 0, 0), 0)
        self.made(NUMBER, 0)
        self.made(LETTER, 0)
        self.made((-1, -1, 0, 0, 0), 0)

    def test_one(self):
        left = sorted(self.one - self.none)
        self.assertGreater(len(left), 50)
        for numbers in left:
            self.made(numbers, 1)

    def test_two(self):
        left = sorted(self.two - self.one)
        self.assertGreater(len(left), 5000)
        for numbers in Random(171).sample(left, 100):
            self.made(numbers, 2)

    def test_by_hand(self):
        for numbers, many in (((0, 0, 1), 1), ((0, 0, -1), 1), ((1, 2, 1), 1), ((2, 0, 0), 1), ((0, 2, 0), 1),
                              ((0, -2, 0), 1), ((-2, 0, 0), 1), ((0, 3, 1), 1), ((0, 0, 2), 2), ((0, 0, 0, 1), 2),
                              ((0, 0, 0, 0, 1), 2), ((1, 4, 6, 4, 1), 2), ((1, 3, 3, 1), 2), ((0, 3, 0), 2), ((3, 0, 0), 2),
                              ((0, 0, 4), 2), ((1, 1, 1, 1, 1), 2), ((-1, 0, 0, 0, -1), 2)):
            full = numbers + (0,) * (5 - len(numbers))
            self.assertEqual(many, 0 if full in self.none else 1 if full in self.one else 2, numbers)
            self.assertIn(full, self.two)
            self.made(full, many)

    def test_numbers_above_1_before_the_letter(self):
        for many in range(-9, 10):
            for number in range(-3, 4):
                full = (number, many, 0, 0, 0)
                if full in self.two:
                    self.made(full, 0 if full in self.none else 1 if full in self.one else 2)
                else:
                    self.assertIsNone(cheapest(told(full)))

    def test_powers_above_four(self):
        for power in (5, 6, 8, 12):
            self.assertIsNone(cheapest((((power,), (1, 1)),)))
            self.assertIsNone(cheapest((((0,), (1, 1)), ((power,), (-1, 1)))))
            self.assertIsNone(cheapest((((1,), (1, 1)), ((2,), (1, 1)), ((power,), (1, 1)))))

    def test_fractions(self):
        for f in ((1, 2), (-1, 3), (7, 5), (2, 999979)):
            for power in range(5):
                self.assertIsNone(cheapest((((power,), f),)))
                self.assertIsNone(cheapest((((power,), f), ((5,), (1, 1)))))
            self.assertIsNone(cheapest((((0,), (1, 1)), ((1,), f))))

    def test_great_numbers(self):
        for many in (30, -30, 999983, -999983):
            for power in range(5):
                self.assertIsNone(cheapest((((power,), (many, 1)),)))
                self.assertIsNone(cheapest(told([many if k == power else 1 for k in range(5)])))

    def test_near_ones(self):
        chance = Random(172)
        near = sorted(self.two)
        few = many = 0
        while few < 30:
            numbers = list(chance.choice(near))
            numbers[chance.randrange(5)] += chance.choice((-1, 1))
            if tuple(numbers) in self.two:
                many += 1
                self.assertIsNotNone(cheapest(told(numbers)))
            else:
                few += 1
                self.assertIsNone(cheapest(told(numbers)))
        self.assertGreater(many, 5)

    def test_told_again_the_same(self):
        for numbers in ((0, 0, 2, 0, 0), (1, 4, 6, 4, 1), (3, 3, 3, 3, 3)):
            self.assertEqual(cheapest(told(numbers)), cheapest(told(numbers)))

    def test_in_time(self):
        began = time.monotonic()
        self.assertIsNone(cheapest(told((9, 9, 9, 9, 9))))
        self.assertLess(time.monotonic() - began, 2)
