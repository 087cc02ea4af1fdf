"""Point 17: reckonings made anew without quotients."""

import time
import unittest
from random import Random

import makings
from plain_papers import plain_refusal, plain_sum
from undivide.errors import NoOver
from undivide.polys import degree, piece, value
from undivide.quotients import good_point, polynomial_of
from undivide.reckonings import is_whole, look_reckoning
from undivide.running import run
from undivide.shown import show_reckoning
from undivide.texts import read_reckoning
from undivide.undivided import undivided

POINTS = (((0, 1), (0, 1), (0, 1)), ((-1, 1), (2, 1), (0, 1)), ((1, 2), (-3, 7), (999, 998)))


class Undivided(unittest.TestCase):
    def made(self, reckoning, point, most):
        """What is told, looked at in all that holds of every one."""
        told = undivided(reckoning, point, most)
        self.assertIs(type(told), tuple)
        new, paper = told
        self.assertIs(look_reckoning(new), True)
        self.assertTrue(is_whole(new))
        self.assertEqual(new[0], reckoning[0])
        self.assertLessEqual(len(new[1]), 4 * len(reckoning[1]) * (most + 2) * (most + 2) + 4)
        self.assertIs(type(paper), tuple)
        self.assertEqual(len(paper), len(new[1]))
        for mark in paper:
            if mark is not None:
                self.assertIs(type(mark), tuple)
                self.assertEqual([type(part) for part in mark], [int, int])
        self.assertIsNone(plain_refusal(reckoning, point, most, new, paper))
        self.assertEqual(undivided(reckoning, point, most), told)
        return new

    def refused(self, rows, point, at, letters=("x",)):
        for most in (0, 1, 8):
            with self.assertRaises(NoOver) as kept:
                undivided((letters, rows), point, most)
            self.assertEqual(kept.exception.at, at)

    def test_the_sum_of_the_last_power_row(self):
        chance = Random(61)
        for one, point in makings.good_pairs(chance, 120):
            most = chance.randint(0, 5)
            self.assertEqual(polynomial_of(self.made(one, point, most)), plain_sum(one, point, most))

    def test_the_polynomial_itself(self):
        chance = Random(62)
        beyond = 0
        for _ in range(60):
            one, told = makings.with_quotients(chance)
            for point in (good_point(one), makings.some_point(chance, one[0])):
                if makings.runs(one, point):
                    most = chance.randint(0, 8)
                    new = polynomial_of(self.made(one, point, most))
                    if degree(told) <= most:
                        self.assertEqual(new, told)
                    else:
                        beyond += 1
                        self.assertEqual(new, plain_sum(one, point, most))
        self.assertGreater(beyond, 5)

    def test_points_of_all_kinds(self):
        one = read_reckoning("letters x y z\na = x * y\nb = a + z\nc = b * b\nd = z + 5/7\ne = c * d\nf = e / d\ngive f")
        told = polynomial_of(one)
        for point in POINTS:
            for most in (4, 6):
                self.assertEqual(polynomial_of(self.made(one, point, most)), told)
            self.assertEqual(polynomial_of(self.made(one, point, 2)), plain_sum(one, point, 2))

    def test_where_the_first_one_stops(self):
        one = read_reckoning("letters x y\na = x * x\nb = y * y\nc = a - b\nd = x - y\ne = c / d\ngive e")
        new = self.made(one, ((0, 1), (1, 1)), 1)
        for point in (((1, 1), (1, 1)), ((0, 1), (0, 1)), ((-2, 7), (-2, 7))):
            with self.assertRaises(NoOver):
                run(one, point)
            self.assertEqual(run(new, point)[-1], value(polynomial_of(one), point))

    def test_no_polynomial(self):
        one = read_reckoning("letters x\na = 1 - x\nb = 1 / a\ngive b")
        self.assertIsNone(polynomial_of(one))
        for most in range(9):
            told = polynomial_of(self.made(one, ((0, 1),), most))
            self.assertEqual(told, tuple(((k,), (1, 1)) for k in range(most + 1)))
        # Around 2: -1, then x - 2, less (x - 2) (x - 2).
        self.assertEqual(polynomial_of(self.made(one, ((2, 1),), 0)), (((0,), (-1, 1)),))
        self.assertEqual(polynomial_of(self.made(one, ((2, 1),), 1)), (((0,), (-3, 1)), ((1,), (1, 1))))
        self.assertEqual(polynomial_of(self.made(one, ((2, 1),), 2)), (((0,), (-7, 1)), ((1,), (5, 1)), ((2,), (-1, 1))))

    def test_without_quotients(self):
        one = read_reckoning("letters x y\na = x + 1/2\nb = a * y\nc = b - x\nd = c * c\ngive d")
        for point in POINTS:
            self.assertEqual(polynomial_of(self.made(one, point[:2], 4)), polynomial_of(one))
        # At nought the pieces up to most stay, the others go.
        self.assertEqual(polynomial_of(self.made(one, POINTS[0][:2], 2)), piece(polynomial_of(one), 2))

    def test_numbers_and_letters(self):
        for f in ((0, 1), (-7, 2), (999999, 999998)):
            for most in (0, 1, 8):
                for rows in ((("number", f),), (("letter", 0), ("over", 0, 0), ("number", f))):
                    told = polynomial_of(self.made((("x",), rows), ((1, 3),), most))
                    self.assertEqual(told, (((0,), f),) if f[0] else ())
        for rows in ((("letter", 1),), (("letter", 0), ("over", 0, 0), ("letter", 1))):
            for most in (1, 8):
                self.assertEqual(polynomial_of(self.made((("x", "y"), rows), ((1, 3), (-5, 1)), most)),
                                 (((0, 1), (1, 1)),))
            self.assertEqual(polynomial_of(self.made((("x", "y"), rows), ((1, 3), (-5, 1)), 0)), (((0, 0), (-5, 1)),))
            self.assertEqual(polynomial_of(self.made((("x", "y"), rows), ((1, 3), (0, 1)), 0)), ())

    def test_most_0(self):
        chance = Random(63)
        for one, point in makings.good_pairs(chance, 40):
            f = run(one, point)[-1]
            nothing = (0,) * len(point)
            self.assertEqual(polynomial_of(self.made(one, point, 0)), ((nothing, f),) if f[0] else ())

    def test_rows_that_say_the_same(self):
        # Each of the rows has marks of its own, though the rules are like one another's.
        rows = (("letter", 0), ("times", 0, 0), ("times", 0, 0), ("number", (0, 1)), ("plus", 1, 3), ("plus", 2, 3),
                ("plus", 4, 5), ("plus", 6, 3), ("less", 3, 7))
        for point in (((0, 1),), ((5, 3),)):
            for most in (1, 2, 3):
                told = polynomial_of(self.made((("x",), rows), point, most))
                self.assertEqual(told, plain_sum((("x",), rows), point, most))

    def test_few_rows(self):
        for rows in ((("number", (1, 2)),), (("letter", 0),), (("letter", 0), ("times", 0, 0)),
                     (("letter", 0), ("plus", 0, 0)), (("letter", 0), ("over", 0, 0)), (("letter", 0), ("less", 0, 0))):
            for most in range(9):
                self.made((("x",), rows), ((-2, 3),), most)

    def test_refused(self):
        self.refused((("letter", 0), ("over", 0, 0)), ((0, 1),), 1)
        self.refused((("letter", 0), ("less", 0, 0), ("over", 0, 1), ("letter", 0)), ((5, 1),), 2)
        self.refused((("letter", 0), ("number", (4, 1)), ("over", 1, 0), ("over", 0, 0), ("number", (1, 1))), ((0, 1),), 2)
        rows = (("letter", 0), ("letter", 1), ("less", 0, 1), ("over", 0, 2), ("plus", 3, 1))
        self.refused(rows, ((-1, 3), (-1, 3)), 3, ("x", "y"))

    def test_handed_on(self):
        one = read_reckoning("letters x y\na = x + y\nb = a * a\nc = b / a\nd = c * y\ngive d")
        new = self.made(one, ((1, 2), (1, 3)), 2)
        self.assertEqual(polynomial_of(read_reckoning(show_reckoning(new))), polynomial_of(one))

    def test_nothing_is_changed(self):
        one, point = (("x",), (("letter", 0), ("over", 0, 0))), ((1, 2),)
        undivided(one, point, 3)
        self.assertEqual((one, point), ((("x",), (("letter", 0), ("over", 0, 0))), ((1, 2),)))


class InTime(unittest.TestCase):
    def test_each_row_the_one_ahead_twice(self):
        began = time.monotonic()
        for word, many in (("plus", 24), ("less", 24), ("times", 4), ("over", 4)):
            one = makings.doubled(word, many)
            for most in (1, 8):
                new, paper = undivided(one, ((7, 3),), most)
                self.assertIsNone(plain_refusal(one, ((7, 3),), most, new, paper))
        self.assertEqual(polynomial_of(undivided(makings.doubled("plus"), ((7, 3),), 8)[0]), (((1,), (2 ** 23, 1)),))
        rows = [("letter", 0), ("number", (1, 1)), ("plus", 0, 1)]
        for at in range(2, 20):
            rows += [("over", at, at)] if at % 2 else [("plus", at, at)]
        undivided((("x",), tuple(rows)), ((1, 2),), 8)
        self.assertLess(time.monotonic() - began, 3)

    def test_of_many_rows(self):
        began = time.monotonic()
        new, paper = undivided(makings.MANY, makings.MANY_POINT, 8)
        self.assertLess(time.monotonic() - began, 2)
        self.assertEqual(degree(polynomial_of(new)), 8)
        self.assertLess(time.monotonic() - began, 10)
