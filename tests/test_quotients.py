"""Points 10 and 11: reckonings run on quotients, the polynomials they come to, good points."""

import time
import unittest
from fractions import Fraction
from itertools import product
from random import Random

import algebra
from undivide.errors import NoOver
from undivide.polys import poly, value
from undivide.quotients import good_point, polynomial_of, quotients
from undivide.reckonings import weights
from undivide.running import run
from undivide.texts import read_reckoning


def of(*pairs):
    """A polynomial in one letter of pairs (power, whole number)."""
    return poly([((power,), (n, 1)) for power, n in pairs])


def point_of(*numbers):
    return tuple((k, 1) for k in numbers)


def plain_quotients(reckoning):
    """All rows' pairs, just as the point tells them, over dicts."""
    letters, rows = reckoning
    many = len(letters)
    one = algebra.number(1, many)
    pairs = []
    for word, *things in rows:
        if word == "number":
            pairs.append((algebra.number(Fraction(*things[0]), many), one))
        elif word == "letter":
            pairs.append((algebra.letter(things[0], many), one))
        else:
            (a, b), (c, d) = pairs[things[0]], pairs[things[1]]
            if word == "over" and not c:
                return len(pairs)
            times = algebra.multiplied
            sign = 1 if word == "plus" else -1
            pairs.append({"times": lambda: (times(a, c), times(b, d)), "over": lambda: (times(a, d), times(b, c))}.get(
                word, lambda: (algebra.added(times(a, d), times(c, b), sign), times(b, d)))())
    return [(algebra.told(above), algebra.told(beneath)) for above, beneath in pairs]


def some_reckoning(chance, most_rows=10, most_weight=8):
    many = chance.randint(1, 3)
    letters = ("x", "y", "z")[:many]
    rows = [("letter", k) for k in range(many)]
    while len(rows) < most_rows:
        row = (chance.choice(("plus", "less", "times", "over")), chance.randrange(len(rows)), chance.randrange(len(rows)))
        if chance.random() < 0.2:
            row = ("number", algebra.some_fraction(chance, 9))
        if max(weights((letters, tuple(rows) + (row,)))[-1]) <= most_weight:
            rows.append(row)
    return (letters, tuple(rows))


def plain_good_point(reckoning, most):
    """The first good point by the order that the point tells, of those with numbers to most."""
    places = product(range(most + 1), repeat=len(reckoning[0]))
    for place in sorted(places, key=lambda place: (max(place), place)):
        try:
            run(reckoning, point_of(*place))
            return point_of(*place)
        except NoOver:
            pass
    return None


class Quotients(unittest.TestCase):
    def refused(self, asked, rows, at, letters=("x",)):
        with self.assertRaises(NoOver) as kept:
            asked((letters, rows))
        self.assertEqual(kept.exception.at, at)

    def test_word_by_word(self):
        rows = (("letter", 0), ("number", (-3, 2)), ("plus", 0, 1), ("over", 0, 2), ("over", 2, 0), ("plus", 3, 4),
                ("less", 3, 4), ("times", 3, 4), ("over", 3, 4), ("number", (0, 1)))
        one = of((0, 1))
        half = Fraction(1, 2)
        x, shift = of((1, 1)), algebra.told({(0,): -3 * half, (1,): Fraction(1)})
        square = algebra.told({(0,): 9 * half * half, (1,): Fraction(-3), (2,): Fraction(1)})
        both = algebra.told({(1,): -3 * half, (2,): Fraction(1)})
        self.assertEqual(quotients((("x",), rows)), [
            (x, one), (algebra.told({(0,): -3 * half}), one), (shift, one), (x, shift), (shift, x),
            (algebra.told({(0,): 9 * half * half, (1,): Fraction(-3), (2,): Fraction(2)}), both),
            (algebra.told({(0,): -9 * half * half, (1,): Fraction(3)}), both),
            (both, both), (of((2, 1)), square), ((), one)])

    def test_more_letters(self):
        rows = (("letter", 2), ("letter", 0), ("over", 0, 1), ("letter", 1), ("less", 3, 2))
        x, y, z = (algebra.told(algebra.letter(k, 3)) for k in range(3))
        one = algebra.told(algebra.number(1, 3))
        self.assertEqual(quotients((("x", "y", "z"), rows)), [
            (z, one), (x, one), (z, x), (y, one), (poly([((1, 1, 0), (1, 1)), ((0, 0, 1), (-1, 1))]), x)])

    def test_against_the_plain_definition(self):
        chance = Random(13)
        refused = 0
        for _ in range(300):
            one = some_reckoning(chance)
            told = plain_quotients(one)
            if isinstance(told, int):
                refused += 1
                for asked in (quotients, polynomial_of, good_point):
                    self.refused(asked, one[1], told, one[0])
            else:
                self.assertEqual(quotients(one), told)
        self.assertGreater(refused, 5)

    def test_nought_above(self):
        less_itself = (("letter", 0), ("less", 0, 0), ("over", 0, 1))
        nought = (("letter", 0), ("number", (0, 1)), ("times", 0, 1), ("over", 2, 0), ("over", 0, 3), ("over", 0, 1))
        for asked in (quotients, polynomial_of, good_point):
            self.refused(asked, less_itself, 2)
            self.refused(asked, less_itself + (("letter", 0),), 2)
            self.refused(asked, nought, 4)
            self.refused(asked, (("number", (0, 1)), ("over", 0, 0)), 1)

    def test_told_lists_are_the_askers_own(self):
        one = (("x",), (("letter", 0), ("over", 0, 0)))
        first = quotients(one)
        kept = list(first)
        first.clear()
        self.assertEqual(quotients(one), kept)
        self.assertIs(type(quotients(one)), list)

    def test_twenty_four_rows_in_time(self):
        began = time.monotonic()
        rows = [("letter", 0), ("letter", 1), ("letter", 2), ("number", (999983, 999979)), ("plus", 0, 3),
                ("plus", 4, 1), ("plus", 5, 2), ("times", 6, 6), ("times", 7, 6), ("over", 8, 7), ("over", 7, 8),
                ("plus", 9, 10)]
        rows += [("less", 11, 11) if at % 2 else ("times", 11, 11) for at in range(12)]
        told = quotients((("x", "y", "z"), tuple(rows)))
        self.assertEqual(len(told), 24)
        doubled = (("letter", 0),) + tuple(("plus", at, at) for at in range(23))
        self.assertEqual(quotients((("x",), doubled))[-1], (of((1, 2 ** 23)), of((0, 1))))
        self.assertLess(time.monotonic() - began, 10)


class PolynomialOf(unittest.TestCase):
    def test_whole_ones(self):
        self.assertEqual(polynomial_of((("x",), (("letter", 0),))), of((1, 1)))
        self.assertEqual(polynomial_of((("x",), (("number", (0, 1)),))), ())
        self.assertEqual(polynomial_of((("x",), (("letter", 0), ("times", 0, 0), ("less", 1, 0)))), of((2, 1), (1, -1)))
        self.assertEqual(polynomial_of((("x",), (("letter", 0), ("less", 0, 0)))), ())

    def test_products_divided_by_a_part(self):
        text = "letters x y\na = x + y\nb = x - y\nc = a * b\nd = c / {}\ngive d"
        for word, told in (("a", ((1, 0), (0, 1), -1)), ("b", ((1, 0), (0, 1), 1))):
            one = read_reckoning(text.format(word))
            self.assertEqual(polynomial_of(one), poly([(told[0], (1, 1)), (told[1], (told[2], 1))]))
        self.assertEqual(polynomial_of(read_reckoning("letters x\na = x / x\ngive a")), of((0, 1)))
        self.assertEqual(polynomial_of(read_reckoning("letters x\na = x / 3\nb = a / 2/5\ngive b")),
                         (((1,), (5, 6)),))

    def test_none(self):
        self.assertIsNone(polynomial_of(read_reckoning("letters x\na = 1 / x\ngive a")))
        self.assertIsNone(polynomial_of(read_reckoning("letters x y\na = x / y\nb = a + x\ngive b")))
        self.assertIsNone(polynomial_of(read_reckoning("letters x\na = x * x\nb = a + 1\nc = x + 1\nd = b / c\ngive d")))

    def test_sums_that_leave_nothing_behind(self):
        text = "letters x\na = 1 / x\nb = x * x\nc = a + b\nd = c - a\ngive d"
        self.assertEqual(polynomial_of(read_reckoning(text)), of((2, 1)))

    def test_values_are_those_of_the_run(self):
        chance = Random(14)
        nones = 0
        for _ in range(200):
            one = some_reckoning(chance, 9)
            try:
                told = polynomial_of(one)
                point = good_point(one)
            except NoOver:
                continue
            if told is None:
                nones += 1
            else:
                self.assertEqual(value(told, point), run(one, point)[-1])
        self.assertGreater(nones, 10)


class GoodPoint(unittest.TestCase):
    def told(self, text, *numbers):
        self.assertEqual(good_point(read_reckoning(text)), point_of(*numbers), text)

    def test_nothing_in_the_way(self):
        self.told("letters x\ngive x", 0)
        self.told("letters x y\na = x + y\ngive a", 0, 0)
        self.told("letters x y z\na = x / 2\ngive a", 0, 0, 0)

    def test_one_letter(self):
        self.told("letters x\na = 1 / x\ngive a", 1)
        self.told("letters x\na = 1 - x\nb = a * x\nc = 2 - x\nd = b / c\nd = d / b\ngive d", 3)
        self.told("letters x\na = x + 1\nb = 1 / a\ngive b", 0)
        self.told("letters x\na = x - 1/2\nb = 1 / a\ngive b", 0)

    def test_two_letters(self):
        self.told("letters x y\na = 1 / x\ngive a", 1, 0)
        self.told("letters x y\na = 1 / y\ngive a", 0, 1)
        self.told("letters x y\na = x * y\nb = 1 / a\ngive b", 1, 1)
        self.told("letters x y\na = x - y\nb = 1 / a\ngive b", 0, 1)
        self.told("letters x y\na = x - y\nb = a * x\nb = 1 / b\ngive b", 1, 0)
        self.told("letters x y\na = x + y\nb = a - 1\na = a * b\nb = a / a\ngive b", 1, 1)

    def test_three_letters(self):
        self.told("letters x y z\na = x * y\na = a * z\nb = 1 / a\ngive b", 1, 1, 1)
        self.told("letters x y z\na = x - y\nb = y - z\nc = a * b\nd = 1 / c\ngive d", 0, 1, 0)
        self.told("letters x y z\na = x - y\nb = y - z\nc = z - x\nd = a * b\nd = d * c\nd = 1 / d\ngive d", 0, 1, 2)
        self.told("letters x y z\na = x - 1\nb = a * x\nd = 1 / b\ngive d", 2, 0, 0)

    def test_rows_that_are_not_needed_stand_in_the_way_too(self):
        rows = (("number", (1, 1)), ("letter", 1), ("over", 0, 1), ("letter", 0))
        self.assertEqual(good_point((("x", "y"), rows)), point_of(0, 1))

    def test_against_the_plain_definition(self):
        chance = Random(15)
        for _ in range(300):
            one = some_reckoning(chance, 9)
            try:
                told = good_point(one)
            except NoOver:
                self.assertIsInstance(plain_quotients(one), int)
                continue
            self.assertEqual(told, plain_good_point(one, max(k for k, _ in told)))

    def test_many_in_the_way_in_time(self):
        began = time.monotonic()
        rows = [("letter", 0), ("letter", 1), ("letter", 2), ("number", (1, 1)), ("over", 3, 0)]
        divisor = 0
        while len(rows) < 23:
            rows.append(("less", divisor, 3))
            divisor = len(rows) - 1
            rows.append(("over", 3, divisor))
        # Divided is by x, x - 1 and so on to x - 9.
        self.assertEqual(good_point((("x", "y", "z"), tuple(rows))), point_of(10, 0, 0))
        self.assertLess(time.monotonic() - began, 10)
