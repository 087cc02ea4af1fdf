"""Point 18: marks and their rules, and which of them are plain nought."""

import time
import unittest
from random import Random

import makings
from plain_papers import PlainRules, plain_power_rows
from undivide.errors import NoOver
from undivide.forms import LETTER, fractions_of
from undivide.marks import is_nought, last_form, rules_of

HALF = (1, 2)


def told_form(form):
    """A form as a dict of told fractions by products, letters' marks as ("letter", k)."""
    return {tuple(("letter", mark[1]) if mark[0] == LETTER else mark for mark in product): f
            for product, f in fractions_of(form)}


class IsNought(unittest.TestCase):
    def noughts(self, rows, point, most, letters=("x",)):
        """All marks that are plain nought."""
        told = {(i, k): is_nought((letters, rows), point, most, (i, k))
                for i in range(len(rows)) for k in range(1, most + 1)}
        for one in told.values():
            self.assertIn(one, (True, False))
            self.assertIs(type(one), bool)
        return sorted(mark for mark, nought in told.items() if nought)

    def test_numbers_and_letters(self):
        rows = (("number", (3, 1)), ("letter", 0), ("number", (0, 1)))
        for point in (((0, 1),), ((5, 2),)):
            self.assertEqual(self.noughts(rows, point, 3), [(0, 1), (0, 2), (0, 3), (1, 2), (1, 3), (2, 1), (2, 2), (2, 3)])

    def test_sums_and_differences(self):
        rows = (("letter", 0), ("number", HALF), ("plus", 0, 1), ("less", 1, 2), ("plus", 1, 1), ("less", 2, 2),
                ("plus", 5, 4))
        self.assertEqual(self.noughts(rows, ((7, 1),), 2), [
            (0, 2), (1, 1), (1, 2), (2, 2), (3, 2), (4, 1), (4, 2), (5, 1), (5, 2), (6, 1), (6, 2)])

    def test_two_rows_of_one_letter(self):
        rows = (("letter", 0), ("letter", 0), ("less", 0, 1), ("plus", 0, 1), ("over", 0, 1), ("times", 0, 1))
        self.assertEqual(self.noughts(rows, ((7, 1),), 2), [
            (0, 2), (1, 2), (2, 1), (2, 2), (3, 2), (4, 1), (4, 2)])

    def test_products_with_a_value_nought(self):
        # x times y at x 0, y 0 has its second mark alone; at x 0, y 1 both.
        rows = (("letter", 0), ("letter", 1), ("times", 0, 1), ("number", (0, 1)), ("times", 2, 3))
        letters = ("x", "y")
        self.assertEqual(self.noughts(rows, ((0, 1), (0, 1)), 3, letters), [
            (0, 2), (0, 3), (1, 2), (1, 3), (2, 1), (2, 3), (3, 1), (3, 2), (3, 3), (4, 1), (4, 2), (4, 3)])
        self.assertEqual(self.noughts(rows, ((0, 1), (1, 1)), 3, letters)[4:], [
            (2, 3), (3, 1), (3, 2), (3, 3), (4, 1), (4, 2), (4, 3)])
        # x x at 0 has its second mark alone, x x x its third alone.
        rows = (("letter", 0), ("times", 0, 0), ("times", 1, 0))
        self.assertEqual(self.noughts(rows, ((0, 1),), 4), [
            (0, 2), (0, 3), (0, 4), (1, 1), (1, 3), (1, 4), (2, 1), (2, 2), (2, 4)])
        self.assertEqual(self.noughts(rows, ((1, 1),), 4), [(0, 2), (0, 3), (0, 4), (1, 3), (1, 4), (2, 4)])

    def test_quotients(self):
        rows = (("letter", 0), ("number", (2, 1)), ("over", 0, 1), ("over", 1, 0), ("over", 0, 0), ("over", 3, 3),
                ("over", 1, 1))
        self.assertEqual(self.noughts(rows, ((-3, 1),), 2), [
            (0, 2), (1, 1), (1, 2), (2, 2), (4, 1), (4, 2), (5, 1), (5, 2), (6, 1), (6, 2)])
        # x over y at x 0: the second mark is that of the first and of y.
        rows = (("letter", 0), ("letter", 1), ("over", 0, 1))
        self.assertEqual(self.noughts(rows, ((0, 1), (1, 1)), 3, ("x", "y")), [(0, 2), (0, 3), (1, 2), (1, 3)])

    def test_nought_by_meaning_alone(self):
        rows = (("letter", 0), ("times", 0, 0), ("times", 0, 0), ("less", 1, 2), ("over", 1, 0))
        one, point = (("x",), rows), ((3, 1),)
        plain = plain_power_rows(one, point, 2)
        self.assertEqual(plain[3], [{}, {}, {}])
        self.assertFalse(is_nought(one, point, 2, (3, 1)))
        self.assertFalse(is_nought(one, point, 2, (3, 2)))
        # x x over x is x, yet its second mark rests on others that aren't plain nought.
        self.assertEqual(plain[4][2], {})
        self.assertFalse(is_nought(one, point, 2, (4, 2)))

    def test_left_out_of_all_rules(self):
        # What rests on plain noughts alone is plain nought, also by products and quotients.
        rows = (("letter", 0), ("less", 0, 0), ("plus", 1, 1), ("times", 1, 0), ("times", 2, 2), ("over", 2, 0))
        self.assertEqual(self.noughts(rows, ((3, 1),), 1), [(1, 1), (2, 1), (3, 1), (4, 1), (5, 1)])

    def test_most_does_not_matter(self):
        chance = Random(52)
        for one, point in makings.good_pairs(chance, 20):
            for i in range(len(one[1])):
                for k in (1, 2, 3):
                    told = {is_nought(one, point, most, (i, k)) for most in range(k, 6)}
                    self.assertEqual(len(told), 1)

    def test_against_the_plain_definition(self):
        chance = Random(53)
        kinds = {True: 0, False: 0}
        for one, point in makings.good_pairs(chance, 60):
            most = chance.randint(1, 4)
            plain = PlainRules(one, point, most)
            for mark, rule in plain.rules.items():
                self.assertIs(is_nought(one, point, most, mark), not rule)
                kinds[not rule] += 1
        self.assertGreater(min(kinds.values()), 100)

    def test_over_nought(self):
        rows = (("letter", 0), ("over", 0, 0), ("letter", 0))
        for mark in ((0, 1), (0, 2), (1, 1), (2, 2)):
            with self.assertRaises(NoOver) as kept:
                is_nought((("x",), rows), ((0, 1),), 2, mark)
            self.assertEqual(kept.exception.at, 1)


class Rules(unittest.TestCase):
    def test_word_by_word(self):
        rows = (("letter", 0), ("letter", 1), ("times", 0, 1), ("over", 2, 0), ("less", 2, 3), ("times", 2, 2))
        told = rules_of((("x", "y"), rows), ((2, 1), (0, 1)), 2).rules
        x, y = ("letter", 0), ("letter", 1)
        self.assertEqual([told_form(form) for form in told[0]], [{(): (2, 1)}, {(x,): (1, 1), (): (-2, 1)}, {}])
        self.assertEqual([told_form(form) for form in told[1]], [{}, {(y,): (1, 1)}, {}])
        self.assertEqual([told_form(form) for form in told[2]], [
            {}, {(y,): (2, 1)}, {(x, y): (1, 1), (y,): (-2, 1)}])
        # Of the quotient: (2, 1) with 1/2, then (2, 2) with 1/2 less x - 2 times (3, 1), with 1/2.
        self.assertEqual([told_form(form) for form in told[3]], [
            {}, {((2, 1),): HALF}, {((2, 2),): HALF, (x, (3, 1)): (-1, 2), ((3, 1),): (1, 1)}])
        self.assertEqual(told_form(told[4][2]), {((2, 2),): (1, 1), ((3, 2),): (-1, 1)})
        self.assertEqual([told_form(form) for form in told[5]], [{}, {}, {((2, 1), (2, 1)): (1, 1)}])

    def test_against_the_plain_definition(self):
        chance = Random(54)
        for one, point in makings.good_pairs(chance, 80):
            most = chance.randint(0, 5)
            plain = PlainRules(one, point, most)
            told = rules_of(one, point, most)
            for (i, k), rule in plain.rules.items():
                own = {tuple(sorted(product, key=repr)): f for product, f in told_form(told.rules[i][k]).items()}
                self.assertEqual(own, {product: (f.numerator, f.denominator) for product, f in rule.items()})
            self.assertEqual(len(fractions_of(last_form(told))), len(plain.last()))

    def test_in_time(self):
        began = time.monotonic()
        self.assertFalse(is_nought(makings.doubled("plus"), ((7, 3),), 8, (23, 1)))
        self.assertTrue(is_nought(makings.doubled("plus"), ((7, 3),), 8, (23, 2)))
        self.assertLess(time.monotonic() - began, 2)
