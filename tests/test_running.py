"""Point 8: reckonings run at points."""

import time
import unittest
from fractions import Fraction
from random import Random

import algebra
from plain_papers import plain_run
from undivide.errors import NoOver
from undivide.running import run

ALL_WORDS = (("x", "y"), (
    ("letter", 0), ("number", (-3, 4)), ("plus", 0, 1), ("letter", 1), ("less", 2, 3), ("times", 4, 4), ("over", 3, 5),
))


class Running(unittest.TestCase):
    def refused(self, rows, point, at):
        with self.assertRaises(NoOver) as kept:
            run((("x", "y"), rows), point)
        self.assertEqual(kept.exception.at, at)

    def test_all_rows(self):
        self.assertEqual(run(ALL_WORDS, ((1, 2), (3, 1))), [
            (1, 2), (-3, 4), (-1, 4), (3, 1), (-13, 4), (169, 16), (48, 169)])
        self.assertEqual(run(ALL_WORDS, ((0, 1), (0, 1))), [
            (0, 1), (-3, 4), (-3, 4), (0, 1), (-3, 4), (9, 16), (0, 1)])
        self.assertEqual(run(ALL_WORDS, ((-5, 1), (-1, 7))), [
            (-5, 1), (-3, 4), (-23, 4), (-1, 7), (-157, 28), (24649, 784), (-112, 24649)])

    def test_rows_that_are_not_needed_are_told_too(self):
        self.assertEqual(run((("x",), (("letter", 0), ("plus", 0, 0), ("number", (1, 3)))), ((2, 5),)),
                         [(2, 5), (4, 5), (1, 3)])

    def test_against_the_plain_definition(self):
        chance = Random(12)
        for _ in range(200):
            point = tuple(algebra.some_fraction(chance, 9) for _ in range(3))
            rows = [("letter", 0), ("letter", 1), ("letter", 2)]
            while len(rows) < 12:
                word = chance.choice(("number", "plus", "less", "times", "over"))
                row = (word, chance.randrange(len(rows)), chance.randrange(len(rows)))
                rows.append(("number", algebra.some_fraction(chance, 9)) if word == "number" else row)
            one = (("x", "y", "z"), tuple(rows))
            try:
                told = [algebra.pair(f) for f in plain_run(one, point)]
            except ZeroDivisionError:
                with self.assertRaises(NoOver):
                    run(one, point)
                continue
            self.assertEqual(run(one, point), told)

    def test_over_nought(self):
        rows = (("letter", 0), ("letter", 1), ("less", 0, 1), ("over", 0, 2), ("over", 1, 2), ("plus", 3, 4))
        self.refused(rows, ((1, 2), (1, 2)), 3)
        self.assertEqual(run((("x", "y"), rows), ((2, 1), (1, 1)))[-1], (3, 1))
        self.refused((("letter", 0), ("over", 0, 0)), ((0, 1), (1, 1)), 1)

    def test_over_nought_where_it_is_not_needed(self):
        rows = (("letter", 0), ("number", (0, 1)), ("over", 0, 1), ("letter", 1))
        self.refused(rows, ((1, 1), (1, 1)), 2)
        self.refused(rows[:3] + (("over", 0, 1), ("letter", 1)), ((1, 1), (1, 1)), 2)

    def test_nought_over_another(self):
        self.assertEqual(run((("x", "y"), (("letter", 0), ("letter", 1), ("over", 0, 1))), ((0, 1), (-7, 2)))[2], (0, 1))

    def test_rows_are_shared(self):
        began = time.monotonic()
        rows = (("letter", 0),) + tuple(("plus", at, at) for at in range(23))
        self.assertEqual(run((("x",), rows), ((3, 7),)), [algebra.pair(Fraction(3 * 2 ** at, 7)) for at in range(24)])
        self.assertLess(time.monotonic() - began, 1)

    def test_told_lists_are_the_askers_own(self):
        point = ((1, 2), (3, 1))
        first = run(ALL_WORDS, point)
        kept = list(first)
        first[0] = None
        first.clear()
        self.assertEqual(run(ALL_WORDS, point), kept)
        self.assertEqual(point, ((1, 2), (3, 1)))
        self.assertIs(type(run(ALL_WORDS, point)), list)
