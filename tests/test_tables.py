"""Point 31: signed sums of tables, and tables of webs."""

import time
import unittest
from random import Random

import algebra
import makings
from plain_nets import of
from plain_webs import HALF, LESS, ONE, line, plain_table, plain_web, some_entry, some_table, some_web, table_at
from undivide.quotients import polynomial_of
from undivide.running import run
from undivide.tables import signed_sum, table_of
from undivide.webs import web_of, web_poly

NONE = ((0, 1), None)
X, Y = (ONE, 0), (ONE, 1)


def number(f):
    return ((f, 1), None)


def negated(poly):
    return tuple((powers, (-n, d)) for powers, (n, d) in poly)


class SignedSum(unittest.TestCase):
    def comes_to(self, rows, *terms, letters=("x", "y")):
        self.assertEqual(signed_sum((letters, rows)), of(*terms))
        self.assertEqual(plain_table((letters, rows)), of(*terms))

    def test_one_row(self):
        self.comes_to(((X,),), ((1, 0), 1))
        self.comes_to((((HALF, 1),),), ((0, 1), "1/2"))
        self.comes_to((((HALF, None),),), ((0, 0), "1/2"))
        self.comes_to(((NONE,),))
        self.comes_to(((((0, 1), 1),),))

    def test_two_rows(self):
        self.comes_to(((X, Y), (number(3), number(5))), ((1, 0), 5), ((0, 1), -3))
        self.comes_to(((X, Y), (Y, X)), ((2, 0), 1), ((0, 2), -1))
        self.comes_to(((X, NONE), (Y, X)), ((2, 0), 1))
        self.comes_to(((NONE, X), (Y, NONE)), ((1, 1), -1))
        self.comes_to(((NONE, X), (NONE, Y)))

    def test_three_rows(self):
        rows = ((number(1), number(2), number(3)), (number(4), number(5), number(6)), (number(7), number(8), X))
        self.comes_to(rows, ((0, 0), 27), ((1, 0), -3))
        # Each of the six orders by itself: those of one exchange are odd, those of two even.
        for order, sign in (((0, 1, 2), 1), ((0, 2, 1), -1), ((1, 0, 2), -1), ((1, 2, 0), 1), ((2, 0, 1), 1),
                            ((2, 1, 0), -1)):
            rows = tuple(tuple(X if column == place else NONE for place in range(3)) for column in order)
            self.comes_to(rows, ((3, 0), sign))

    def test_orders_of_four_to_six(self):
        for size in (4, 5, 6):
            for step in range(size):
                rows = tuple(tuple(X if (place - at) % size == step else NONE for place in range(size))
                             for at in range(size))
                self.comes_to(rows, ((size, 0), (-1) ** (step * (size - step))))

    def test_some(self):
        chance = Random(141)
        for size, many in ((1, 20), (2, 40), (3, 40), (4, 20), (5, 6), (6, 2)):
            for _ in range(many):
                table = some_table(chance, size, chance.choice((0, 0.2, 0.5)))
                self.assertEqual(signed_sum(table), plain_table(table))

    def test_two_rows_alike(self):
        chance = Random(142)
        for size in (2, 3, 4, 5, 6):
            for one, other in ((0, 1), (0, size - 1), (size - 2, size - 1)):
                letters, rows = some_table(chance, size, 0)
                rows = list(rows)
                rows[one] = rows[other]
                if one != other:
                    self.assertEqual(signed_sum((letters, tuple(rows))), ())
                    self.assertEqual(signed_sum((letters, tuple(zip(*rows)))), ())

    def test_rows_exchanged(self):
        chance = Random(143)
        for size in (2, 3, 4, 5, 6):
            letters, rows = some_table(chance, size, 0.1)
            told = signed_sum((letters, rows))
            for at in range(size - 1):
                turned = rows[:at] + (rows[at + 1], rows[at]) + rows[at + 2:]
                self.assertEqual(signed_sum((letters, turned)), negated(told))
            self.assertEqual(signed_sum((letters, tuple(row[1:] + row[:1] for row in rows))),
                             told if size % 2 else negated(told))

    def test_rows_and_columns_exchanged(self):
        chance = Random(144)
        for size in (1, 2, 3, 4, 5, 6):
            letters, rows = some_table(chance, size, 0.3)
            self.assertEqual(signed_sum((letters, tuple(zip(*rows)))), signed_sum((letters, rows)))

    def test_in_time(self):
        chance = Random(145)
        f, g = (999983, 999979), (-999961, 999959)
        began = time.monotonic()
        for _ in range(20):
            rows = tuple(tuple((chance.choice((f, g)), chance.choice((None, 0, 1, 2))) for _ in range(6)) for _ in range(6))
            signed_sum((("x", "y", "z"), rows))
        self.assertLess(time.monotonic() - began, 5)


class TableOf(unittest.TestCase):
    def made(self, web):
        """The table that is told, looked at in all that holds of every one."""
        table = table_of(web)
        letters, rows = table
        self.assertEqual(letters, web[0])
        self.assertIs(type(table), tuple)
        self.assertIs(type(rows), tuple)
        self.assertEqual(len(rows), web[1] - 1)
        for row in rows:
            self.assertIs(type(row), tuple)
            self.assertEqual(len(row), web[1] - 1)
            for f, letter in row:
                self.assertEqual(algebra.pair(algebra.Fraction(*f)), f)
                self.assertIn(letter, [None] + list(range(len(letters))))
        if len(rows) <= 6:
            self.assertEqual(signed_sum(table), web_poly(web))
        if len(rows) <= 4:
            self.assertEqual(plain_table(table), plain_web(web))
        self.assertEqual(table_of(web), table)
        return table

    def test_two_dots(self):
        for entry in (X, Y, (HALF, None), ((-7, 3), 0)):
            self.assertEqual(signed_sum(self.made((("x", "y"), 2, ((0, 1, entry),)))), plain_web((("x", "y"), 2, ((0, 1, entry),))))

    def test_no_ways(self):
        for dots in (2, 3, 4, 5, 6, 7):
            self.assertEqual(signed_sum(self.made((("x",), dots, ()))), ())

    def test_lines(self):
        for dots in range(2, 8):
            self.assertEqual(signed_sum(self.made(line(dots, X))), (((dots - 1,), ONE),))
            self.assertEqual(signed_sum(self.made(line(dots, (LESS, None)))), (((0,), ((-1) ** (dots - 1), 1)),))

    def test_one_way_alone(self):
        # From the first dot to the last: all dots in between are come by no walk.
        for dots in range(2, 8):
            self.assertEqual(signed_sum(self.made((("x",), dots, ((0, dots - 1, (HALF, 0)),)))), (((1,), HALF),))

    def test_all_ways(self):
        chance = Random(146)
        for dots in range(2, 8):
            ways = tuple((start, end, some_entry(chance, 3)) for start in range(dots) for end in range(start + 1, dots))
            self.made((("x", "y", "z"), dots, ways))
            same = tuple((start, end, X) for start, end, entry in ways)
            self.made((("x",), dots, same))

    def test_some(self):
        chance = Random(147)
        for _ in range(150):
            self.made(some_web(chance, chance.randint(2, 7), chance.choice((0.2, 0.5, 0.8))))

    def test_of_reckonings(self):
        chance = Random(148)
        for _ in range(40):
            one = makings.some_reckoning(chance, chance.randint(2, 5), words=("plus", "less", "times"))
            web = web_of(one, 90)
            table = self.made(web)
            point = makings.some_point(chance, one[0], 9)
            self.assertEqual(algebra.pair(table_at(table, point)), run(one, point)[-1])
            if len(table[1]) <= 6:
                self.assertEqual(signed_sum(table), polynomial_of(one))

    def test_ninety_dots(self):
        chance = Random(149)
        began = time.monotonic()
        for share in (0.02, 0.1, 1):
            web = some_web(chance, 90, share)
            table = self.made(web)
            if share < 0.1:
                point = makings.some_point(chance, web[0])
                self.assertEqual(table_at(table, point), algebra.at_point(algebra.terms_of(web_poly(web)), point))
        self.made(line(90, X))
        self.assertLess(time.monotonic() - began, 10)
