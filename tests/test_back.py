"""Point 32: back from webs to reckonings, and from tables to webs."""

import time
import unittest
from itertools import permutations
from random import Random

import makings
from plain_webs import HALF, LESS, ONE, line, plain_table, plain_web, some_table, some_web
from undivide.back import reckoning_of_web, web_of_table
from undivide.quotients import polynomial_of
from undivide.reckonings import is_whole, look_reckoning
from undivide.tables import signed_sum, table_of
from undivide.webs import look_web, web_of, web_poly

NONE = ((0, 1), None)
X, Y = (ONE, 0), (ONE, 1)


class ReckoningOfWeb(unittest.TestCase):
    def made(self, web):
        """The reckoning that is told, looked at in all that holds of every one."""
        one = reckoning_of_web(web)
        self.assertIs(look_reckoning(one), True)
        self.assertTrue(is_whole(one))
        self.assertEqual(one[0], web[0])
        self.assertLessEqual(len(one[1]), 4 * len(web[2]) + 4)
        self.assertEqual(polynomial_of(one), web_poly(web))
        if web[1] <= 8:
            self.assertEqual(polynomial_of(one), plain_web(web))
        self.assertEqual(reckoning_of_web(web), one)
        return one

    def test_no_ways(self):
        for dots in (2, 3, 90):
            for letters in (("x",), ("x", "y", "z")):
                self.assertEqual(polynomial_of(self.made((letters, dots, ()))), ())

    def test_no_walk(self):
        for ways in (((0, 1, X),), ((1, 3, X),), ((0, 1, X), (2, 3, X)), ((0, 1, X), (1, 2, (ONE, None))),
                     ((0, 1, X), (0, 2, Y), (1, 2, X))):
            self.assertEqual(polynomial_of(self.made((("x", "y"), 4, ways))), ())

    def test_dots_that_no_walk_reaches(self):
        # Dot 1 leads nowhere, dot 2 is come to by none, dot 3 is, and dot 4 is by both alone.
        ways = ((0, 1, X), (0, 3, Y), (1, 4, X), (2, 4, X), (2, 5, Y), (3, 5, (HALF, None)))
        self.made((("x", "y"), 6, ways))
        self.made((("x", "y"), 7, ways + ((5, 6, ((-7, 3), 0)),)))

    def test_one_way(self):
        for entry in (X, Y, (ONE, None), (LESS, None), (LESS, 0), (HALF, 1), ((-7, 3), None)):
            self.made((("x", "y"), 2, ((0, 1, entry),)))
            self.made((("x", "y"), 5, ((0, 4, entry),)))

    def test_entries_of_each_kind(self):
        entries = (X, (ONE, None), (LESS, None), (LESS, 0), (HALF, 1), ((-7, 3), None))
        for first in entries:
            for second in entries:
                self.made((("x", "y"), 3, ((0, 1, first), (1, 2, second))))
                self.made((("x", "y"), 3, ((0, 1, first), (0, 2, Y), (1, 2, second))))
                self.made((("x", "y"), 4, ((0, 1, Y), (0, 2, Y), (1, 3, first), (2, 3, second))))
                self.made((("x", "y"), 4, ((0, 1, (ONE, None)), (0, 2, Y), (1, 3, first), (2, 3, second))))

    def test_the_row_that_is_given_is_not_the_last_made(self):
        # The last dot stands for what dot 1 does, while dot 2 is nought more.
        ways = ((0, 1, X), (1, 2, Y), (1, 3, (ONE, None)))
        self.assertEqual(polynomial_of(self.made((("x", "y"), 4, ways))), (((1, 0), ONE),))
        ways = ((0, 1, X), (0, 2, Y), (1, 3, (ONE, None)))
        self.made((("x", "y"), 4, ways))

    def test_walks_that_add_up_to_nought(self):
        ways = ((0, 1, X), (0, 2, (LESS, 0)), (1, 3, (HALF, None)), (2, 3, (HALF, None)), (3, 4, X))
        self.assertEqual(polynomial_of(self.made((("x",), 5, ways))), ())

    def test_some(self):
        chance = Random(151)
        for _ in range(150):
            self.made(some_web(chance, chance.randint(2, 8), chance.choice((0.2, 0.5, 0.8, 1))))

    def test_few_ways_of_many_letters(self):
        # As many rows as may be: each way with a fraction of its own and a letter.
        ways = tuple((at, at + 1, ((at + 2, 7919), at % 3)) for at in range(6))
        self.made((("x", "y", "z"), 7, ways))
        ways = ((0, 1, ((2, 3), 0)), (0, 2, ((5, 7), 1)), (0, 3, ((11, 13), 2)), (1, 3, ((17, 19), 2)),
                (2, 3, ((23, 29), 0)))
        self.made((("x", "y", "z"), 4, ways))
        self.made((("x", "y", "z"), 4, ways[:3] + ways[4:]))

    def test_ninety_dots(self):
        chance = Random(152)
        began = time.monotonic()
        self.made(line(90, X))
        self.made(line(90, (HALF, 1), ("x", "y")))
        for share in (0.01, 0.02, 0.03):
            for _ in range(5):
                self.made(some_web(chance, 90, share))
        ways = tuple((start, end, X) for start in range(90) for end in range(start + 1, 90))
        self.made((("x",), 90, ways))
        self.assertLess(time.monotonic() - began, 10)

    def test_of_reckonings(self):
        chance = Random(153)
        for _ in range(60):
            one = makings.some_reckoning(chance, chance.randint(2, 6), words=("plus", "less", "times"))
            self.assertEqual(polynomial_of(self.made(web_of(one, 200))), polynomial_of(one))


class WebOfTable(unittest.TestCase):
    def made(self, table):
        """The web that is told, looked at in all that holds of every one."""
        web = web_of_table(table)
        size = len(table[1])
        self.assertIs(look_web(web), True)
        self.assertEqual(web[0], table[0])
        self.assertLessEqual(web[1], size * size * (size + 1) + 2)
        self.assertEqual(web_poly(web), plain_table(table))
        self.assertEqual(web_of_table(table), web)
        return web

    def test_one_row(self):
        for entry in (X, Y, (HALF, 1), (LESS, None), NONE, ((0, 1), 0)):
            self.made((("x", "y"), ((entry,),)))

    def test_two_rows(self):
        entries = (X, NONE, (HALF, 1), (LESS, None))
        for a in entries:
            for b in entries:
                for c in entries:
                    for d in entries:
                        self.made((("x", "y"), ((a, b), (c, d))))

    def test_each_order_by_itself(self):
        for size in (3, 4):
            for order in permutations(range(size)):
                rows = tuple(tuple(X if column == place else NONE for place in range(size)) for column in order)
                self.made((("x",), rows))

    def test_some(self):
        chance = Random(154)
        for size, many in ((1, 20), (2, 40), (3, 60), (4, 40)):
            for _ in range(many):
                self.made(some_table(chance, size, chance.choice((0, 0.2, 0.5, 0.8))))

    def test_nought(self):
        chance = Random(155)
        for size in (1, 2, 3, 4):
            self.assertEqual(web_poly(self.made((("x",), ((NONE,) * size,) * size))), ())
        for size in (2, 3, 4):
            letters, rows = some_table(chance, size, 0)
            self.assertEqual(web_poly(self.made((letters, rows[:1] + rows[:1] + rows[2:]))), ())
            self.assertEqual(web_poly(self.made((letters, rows[:-1] + ((NONE,) * size,)))), ())
            self.assertEqual(web_poly(self.made((letters, tuple((NONE,) + row[1:] for row in rows)))), ())

    def test_letters_alone(self):
        for size in (1, 2, 3, 4):
            rows = tuple(tuple((ONE, (at * place + at) % 3) for place in range(size)) for at in range(size))
            self.made((("x", "y", "z"), rows))

    def test_tables_of_webs(self):
        chance = Random(156)
        for _ in range(60):
            web = some_web(chance, chance.randint(2, 5), chance.choice((0.5, 0.8)))
            self.assertEqual(web_poly(self.made(table_of(web))), web_poly(web))

    def test_further_round(self):
        chance = Random(157)
        for size in (1, 2, 3, 4):
            table = some_table(chance, size)
            web = self.made(table)
            self.assertLessEqual(web[1], 90)
            self.assertEqual(polynomial_of(reckoning_of_web(web)), signed_sum(table))

    def test_somewhat_greater_ones(self):
        chance = Random(158)
        began = time.monotonic()
        self.made(some_table(chance, 5, 0))
        table = some_table(chance, 6, 0)
        self.assertEqual(web_poly(web_of_table(table)), signed_sum(table))
        self.assertLess(time.monotonic() - began, 10)
