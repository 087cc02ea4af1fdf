"""Point 16: power rows."""

import time
import unittest
from fractions import Fraction
from random import Random

import algebra
import makings
from plain_papers import plain_power_rows
from undivide.errors import NoOver
from undivide.polys import degree, moved, piece, poly
from undivide.powers import power_rows
from undivide.quotients import good_point, polynomial_of
from undivide.running import run
from undivide.texts import read_reckoning

ROWS = (("letter", 0), ("letter", 1), ("number", (-3, 4)), ("plus", 0, 1), ("less", 0, 1), ("times", 3, 4),
        ("over", 2, 3))
POINT = ((1, 2), (3, 1))


def in_x(*numbers):
    """A power row in one letter of the numbers by their powers."""
    return [poly([((k,), algebra.pair(Fraction(f)))]) for k, f in enumerate(numbers)]


def in_two(*terms):
    return poly([(powers, algebra.pair(Fraction(f))) for powers, f in terms])


class PowerRows(unittest.TestCase):
    def refused(self, rows, point, at, letters=("x",)):
        for most in (0, 1, 8):
            with self.assertRaises(NoOver) as kept:
                power_rows((letters, rows), point, most)
            self.assertEqual(kept.exception.at, at)
        with self.assertRaises(NoOver) as kept:
            run((letters, rows), point)
        self.assertEqual(kept.exception.at, at)

    def test_each_kind_of_row(self):
        told = power_rows((("x", "y"), ROWS), POINT, 2)
        self.assertEqual(told, [
            [in_two(((0, 0), Fraction(1, 2))), in_two(((1, 0), 1)), ()],
            [in_two(((0, 0), 3)), in_two(((0, 1), 1)), ()],
            [in_two(((0, 0), Fraction(-3, 4))), (), ()],
            [in_two(((0, 0), Fraction(7, 2))), in_two(((1, 0), 1), ((0, 1), 1)), ()],
            [in_two(((0, 0), Fraction(-5, 2))), in_two(((1, 0), 1), ((0, 1), -1)), ()],
            [in_two(((0, 0), Fraction(-35, 4))), in_two(((1, 0), 1), ((0, 1), -6)),
             in_two(((2, 0), 1), ((0, 2), -1))],
            # -3/4 over 7/2 + x + y is -3/14, and on with -2/7 (x + y) times the one ahead.
            [in_two(((0, 0), Fraction(-3, 14))), in_two(((1, 0), Fraction(3, 49)), ((0, 1), Fraction(3, 49))),
             in_two(((2, 0), Fraction(-6, 343)), ((1, 1), Fraction(-12, 343)), ((0, 2), Fraction(-6, 343)))],
        ])

    def test_most_0(self):
        told = power_rows((("x", "y"), ROWS), POINT, 0)
        values = run((("x", "y"), ROWS), POINT)
        self.assertEqual(told, [[in_two(((0, 0), Fraction(*f)))] for f in values])
        self.assertEqual(power_rows((("x",), (("letter", 0),)), ((0, 1),), 0), [[()]])
        self.assertEqual(power_rows((("x",), (("number", (0, 1)),)), ((7, 1),), 0), [[()]])

    def test_most_8(self):
        rows = (("number", (1, 1)), ("letter", 0), ("less", 0, 1), ("over", 0, 2), ("times", 3, 3), ("over", 3, 2))
        told = power_rows((("x",), rows), ((0, 1),), 8)
        self.assertEqual(told[1], in_x(0, 1, 0, 0, 0, 0, 0, 0, 0))
        self.assertEqual(told[3], in_x(*[1] * 9))
        self.assertEqual(told[4], in_x(*range(1, 10)))
        self.assertEqual(told[5], told[4])

    def test_overs_within_one_another(self):
        # 1 over 1 over x: x again, at a point that isn't nought.
        rows = (("letter", 0), ("number", (1, 1)), ("over", 1, 0), ("over", 1, 2), ("over", 2, 3), ("over", 3, 3))
        told = power_rows((("x",), rows), ((2, 3),), 4)
        self.assertEqual(told[2], in_x(Fraction(3, 2), Fraction(-9, 4), Fraction(27, 8), Fraction(-81, 16),
                                       Fraction(243, 32)))
        self.assertEqual(told[3], in_x(Fraction(2, 3), 1, 0, 0, 0))
        self.assertEqual(told[5], in_x(1, 0, 0, 0, 0))

    def test_by_a_letter_and_by_a_sum(self):
        rows = (("letter", 0), ("letter", 1), ("over", 0, 1), ("plus", 0, 1), ("over", 2, 3))
        told = power_rows((("x", "y"), rows), ((0, 1), (-1, 1)), 2)
        self.assertEqual(told[2], [(), in_two(((1, 0), -1)), in_two(((1, 1), -1))])
        self.assertEqual(told[4], [(), in_two(((1, 0), 1)), in_two(((1, 1), 2), ((2, 0), 1))])

    def test_lengths_and_degrees(self):
        chance = Random(41)
        for one, point in makings.good_pairs(chance, 60):
            most = chance.randint(0, 8)
            told = power_rows(one, point, most)
            self.assertIs(type(told), list)
            self.assertEqual(len(told), len(one[1]))
            for row in told:
                self.assertIs(type(row), list)
                self.assertEqual(len(row), most + 1)
                for k, part in enumerate(row):
                    self.assertIn(degree(part), (k, -1))
                    self.assertEqual(piece(part, k), part)

    def test_against_the_plain_definition(self):
        chance = Random(42)
        for one, point in makings.good_pairs(chance, 150):
            most = chance.randint(0, 5)
            plain = plain_power_rows(one, point, most)
            self.assertEqual(power_rows(one, point, most), [[algebra.told(part) for part in row] for row in plain])

    def test_pieces_of_the_polynomial_moved(self):
        chance = Random(43)
        for _ in range(60):
            one, told = makings.with_quotients(chance)
            point = makings.some_point(chance, one[0])
            if not makings.runs(one, point):
                point = good_point(one)
            most = chance.randint(0, 8)
            around = moved(told, point)
            self.assertEqual(power_rows(one, point, most)[-1], [piece(around, k) for k in range(most + 1)])

    def test_of_told_texts(self):
        one = read_reckoning("letters x y\na = x * x\nb = y * y\nc = a - b\nd = x - y\ne = c / d\ngive e")
        self.assertEqual(polynomial_of(one), in_two(((1, 0), 1), ((0, 1), 1)))
        told = power_rows(one, ((3, 1), (1, 2)), 3)[-1]
        self.assertEqual(told, [in_two(((0, 0), Fraction(7, 2))), in_two(((1, 0), 1), ((0, 1), 1)), (), ()])

    def test_over_nought(self):
        self.refused((("letter", 0), ("over", 0, 0)), ((0, 1),), 1)
        self.refused((("letter", 0), ("number", (1, 2)), ("less", 0, 1), ("over", 0, 2), ("over", 1, 2)), ((1, 2),), 3)
        self.refused((("letter", 0), ("less", 0, 0), ("over", 0, 1)), ((5, 1),), 2)
        rows = (("letter", 0), ("letter", 1), ("less", 0, 1), ("over", 0, 2), ("plus", 3, 1))
        self.refused(rows, ((-1, 3), (-1, 3)), 3, ("x", "y"))

    def test_over_nought_where_it_is_not_needed(self):
        self.refused((("letter", 0), ("number", (4, 1)), ("over", 1, 0), ("letter", 0)), ((0, 1),), 2)
        self.refused((("letter", 0), ("number", (0, 1)), ("over", 1, 1), ("over", 1, 0), ("letter", 0)), ((0, 1),), 2)

    def test_told_lists_are_the_askers_own(self):
        one = (("x", "y"), ROWS)
        first = power_rows(one, POINT, 3)
        kept = [list(row) for row in first]
        for row in first:
            row[0] = None
            row.append(5)
        self.assertEqual(len({id(row) for row in first}), len(first))
        first.clear()
        self.assertEqual(power_rows(one, POINT, 3), kept)
        self.assertEqual((one, POINT), ((("x", "y"), ROWS), ((1, 2), (3, 1))))

    def test_twenty_four_rows_in_time(self):
        began = time.monotonic()
        told = power_rows(makings.doubled("plus"), ((7, 3),), 8)
        self.assertEqual(told[-1][:3], in_x(Fraction(7 * 2 ** 23, 3), 2 ** 23, 0))
        rows = [("letter", 0), ("letter", 1), ("letter", 2), ("number", (999983, 999979)), ("plus", 0, 3),
                ("plus", 4, 1), ("plus", 5, 2), ("times", 6, 6), ("times", 7, 6), ("over", 8, 7), ("over", 7, 8),
                ("plus", 9, 10)]
        rows += [("over", 11, 3 + at) if at % 2 else ("times", 11, 11) for at in range(12)]
        told = power_rows((("x", "y", "z"), tuple(rows)), ((-997, 991), (983, 977), (971, 967)), 8)
        self.assertEqual(len(told), 24)
        self.assertLess(time.monotonic() - began, 10)
