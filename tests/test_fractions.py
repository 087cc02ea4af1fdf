"""Point 4: fractions and their texts."""

import unittest
from fractions import Fraction
from random import Random

from undivide.errors import BadText
from undivide.fractions import fraction, fraction_text, less, over, plus, read_fraction, times

THIRTY = 10 ** 30 - 1


def pair(f):
    return (f.numerator, f.denominator)


class Making(unittest.TestCase):
    def test_lowest_terms(self):
        self.assertEqual(fraction(4, 2), (2, 1))
        self.assertEqual(fraction(6, 4), (3, 2))
        self.assertEqual(fraction(3, 7), (3, 7))
        self.assertEqual(fraction(-6, 4), (-3, 2))
        self.assertEqual(fraction(5, 5), (1, 1))

    def test_beneath_is_from_one_on(self):
        self.assertEqual(fraction(6, -4), (-3, 2))
        self.assertEqual(fraction(-6, -4), (3, 2))
        self.assertEqual(fraction(1, -1), (-1, 1))

    def test_nought(self):
        for d in (1, 2, -1, -7, THIRTY):
            self.assertEqual(fraction(0, d), (0, 1))

    def test_many_figures(self):
        self.assertEqual(fraction(THIRTY * 6, THIRTY * 4), (3, 2))
        self.assertEqual(fraction(THIRTY, THIRTY - 1), (THIRTY, THIRTY - 1))
        chance = Random(4)
        for _ in range(200):
            n, d = chance.randint(-THIRTY, THIRTY), chance.randint(1, THIRTY)
            self.assertEqual(fraction(n, d), pair(Fraction(n, d)))
            self.assertEqual(fraction(n, -d), pair(Fraction(n, -d)))

    def test_a_tuple_of_two(self):
        self.assertIs(type(fraction(1, 2)), tuple)


class Reckoning(unittest.TestCase):
    def test_small_ones(self):
        self.assertEqual(plus((1, 2), (1, 3)), (5, 6))
        self.assertEqual(plus((1, 2), (-1, 2)), (0, 1))
        self.assertEqual(less((1, 2), (1, 3)), (1, 6))
        self.assertEqual(less((1, 3), (1, 2)), (-1, 6))
        self.assertEqual(times((2, 3), (3, 4)), (1, 2))
        self.assertEqual(times((-2, 3), (-3, 2)), (1, 1))
        self.assertEqual(over((1, 2), (3, 4)), (2, 3))
        self.assertEqual(over((1, 2), (-3, 4)), (-2, 3))
        self.assertEqual(over((-1, 2), (-3, 4)), (2, 3))

    def test_noughts(self):
        nought = (0, 1)
        for f in ((0, 1), (3, 4), (-3, 4)):
            self.assertEqual(plus(f, nought), f)
            self.assertEqual(plus(nought, f), f)
            self.assertEqual(less(f, nought), f)
            self.assertEqual(less(nought, f), (-f[0], f[1]))
            self.assertEqual(times(f, nought), nought)
            self.assertEqual(times(nought, f), nought)
        self.assertEqual(over(nought, (-3, 4)), nought)

    def test_against_the_plain_definition(self):
        chance = Random(5)
        for most in (3, 50, THIRTY):
            for _ in range(150):
                one = Fraction(chance.randint(-most, most), chance.randint(1, most))
                other = Fraction(chance.randint(-most, most), chance.randint(1, most))
                self.assertEqual(plus(pair(one), pair(other)), pair(one + other))
                self.assertEqual(less(pair(one), pair(other)), pair(one - other))
                self.assertEqual(times(pair(one), pair(other)), pair(one * other))
                if other:
                    self.assertEqual(over(pair(one), pair(other)), pair(one / other))


class Texts(unittest.TestCase):
    TEXTS = {
        "0": (0, 1), "1": (1, 1), "-1": (-1, 1), "10": (10, 1), "-20": (-20, 1), "1/2": (1, 2),
        "-1/2": (-1, 2), "10/3": (10, 3), "3/10": (3, 10), "-7/100": (-7, 100),
        "9" * 30: (THIRTY, 1), "1/" + "9" * 30: (1, THIRTY), "-" + "9" * 30: (-THIRTY, 1),
    }

    BAD = (
        "", "-0", "4/2", "1/1", "-1/1", "0/1", "0/3", "-0/3", "6/4", "-6/4", "01", "00", "-01", "007/2",
        "1/02", "1/0", "0/0", "1/00", "/2", "-/2", "1/", "-1/", "/", "-", "--1", "1/-2", "-1/-2", "+1",
        "+1/2", "1/+2", " 1", "1 ", " ", "1 /2", "1/ 2", "- 1", "1\n", "\n1", "1/2\n", "1/2/3", "1//2",
        "1.5", "1_0", "1/1_0", "x", "1x", "0x1", "1e3", "1,5", "\u0663", "1/\u0663", "\u00b2", "\u22121",
    )

    def test_there_and_back(self):
        for text, f in self.TEXTS.items():
            self.assertEqual(fraction_text(f), text)
            self.assertEqual(read_fraction(text), f)

    def test_any_there_and_back(self):
        chance = Random(6)
        for most in (9, 999999, THIRTY):
            for _ in range(100):
                f = fraction(chance.randint(-most, most), chance.randint(1, most))
                self.assertEqual(read_fraction(fraction_text(f)), f)

    def test_other_texts_are_refused(self):
        for text in self.BAD:
            with self.assertRaises(BadText, msg=repr(text)) as kept:
                read_fraction(text)
            self.assertEqual(kept.exception.at, 0)
