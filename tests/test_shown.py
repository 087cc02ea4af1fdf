"""Point 15: reckonings written as texts."""

import time
import unittest
from random import Random

import algebra
from undivide.errors import BadText, TooMany
from undivide.quotients import polynomial_of
from undivide.reckonings import pruned
from undivide.shown import show_reckoning
from undivide.texts import read_reckoning


def made_rows(reckoning):
    """The rows but letters' and numbers', each part a row's number among these, a letter or a number."""
    rows = reckoning[1]
    places = {}
    told = []
    for at, row in enumerate(rows):
        if len(row) == 3:
            places[at] = ("row", len(told))
            told.append((row[0], places[row[1]], places[row[2]]))
        else:
            places[at] = row
    return told


def some_reckoning(chance):
    many = chance.randint(1, 3)
    rows = []
    while len(rows) < chance.randint(1, 24):
        word = chance.choice(("letter", "number", "plus", "less", "times", "over"))
        if word == "letter" or not rows:
            rows.append(("letter", chance.randrange(many)))
        elif word == "number":
            rows.append(("number", algebra.some_fraction(chance, 999999)))
        else:
            rows.append((word, chance.randrange(len(rows)), chance.randrange(len(rows))))
    return (("x", "yy", "abcde")[:many], tuple(rows))


class Showing(unittest.TestCase):
    def told(self, letters, rows, *text):
        self.assertEqual(show_reckoning((letters, rows)), "\n".join(text))

    def test_each_word(self):
        rows = (("letter", 1), ("number", (-3, 4)), ("plus", 0, 1), ("letter", 0), ("less", 2, 3), ("times", 4, 4),
                ("over", 1, 5))
        self.told(("x", "yy"), rows, "letters x yy", "r2 = yy + -3/4", "r4 = r2 - x", "r5 = r4 * r4", "r6 = -3/4 / r5",
                  "give r6")

    def test_ending_with_a_letter(self):
        self.told(("x",), (("letter", 0),), "letters x", "give x")
        self.told(("x", "y"), (("letter", 0), ("times", 0, 0), ("letter", 1)), "letters x y", "r1 = x * x", "give y")

    def test_ending_with_a_number(self):
        self.told(("x",), (("number", (0, 1)),), "letters x", "r0 = 0", "give r0")
        self.told(("x",), (("letter", 0), ("over", 0, 0), ("number", (-1, 2))),
                  "letters x", "r1 = x / x", "r2 = -1/2", "give r2")

    def test_rows_that_are_not_needed_are_written(self):
        self.told(("x",), (("letter", 0), ("plus", 0, 0), ("less", 0, 0)),
                  "letters x", "r1 = x + x", "r2 = x - x", "give r2")

    def test_two_rows_of_a_letter(self):
        self.told(("x",), (("letter", 0), ("letter", 0), ("plus", 0, 1)), "letters x", "r2 = x + x", "give r2")

    def test_numbers_of_many_figures_are_written_but_not_read(self):
        text = "letters x\nr2 = x + 1234567\ngive r2"
        one = (("x",), (("letter", 0), ("number", (1234567, 1)), ("plus", 0, 1)))
        self.assertEqual(show_reckoning(one), text)
        with self.assertRaises(BadText) as kept:
            read_reckoning(text)
        self.assertEqual(kept.exception.at, 1)

    def test_many_rows_are_written_but_not_read(self):
        one = (("x",), (("letter", 0),) + tuple(("plus", at, at) for at in range(3000)))
        began = time.monotonic()
        text = show_reckoning(one)
        self.assertEqual(text.split("\n")[-2:], ["r3000 = r2999 + r2999", "give r3000"])
        self.assertLess(time.monotonic() - began, 2)
        with self.assertRaises(TooMany):
            read_reckoning(text)


class Back(unittest.TestCase):
    def test_the_same_rows_in_order(self):
        chance = Random(17)
        for _ in range(500):
            one = some_reckoning(chance)
            back = read_reckoning(show_reckoning(one))
            self.assertEqual(back[0], one[0])
            self.assertEqual(made_rows(back), made_rows(pruned(one)))
            last, first = back[1][-1], one[1][-1]
            self.assertEqual(last[0], first[0])
            if len(first) == 2:
                self.assertEqual(last, first)

    def test_comes_to_the_same(self):
        text = "letters x y\na = x * y\nb = a / y\nc = b - 1/3\nd = c * c\ngive d"
        one = read_reckoning(text)
        self.assertEqual(polynomial_of(read_reckoning(show_reckoning(one))), polynomial_of(one))
        self.assertEqual(show_reckoning(one), "letters x y\nr2 = x * y\nr3 = r2 / y\nr5 = r3 - 1/3\nr6 = r5 * r5\ngive r6")
