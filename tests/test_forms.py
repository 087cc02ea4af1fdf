"""Point 18: forms, sums with fractions of products of marks."""

import time
import unittest
from fractions import Fraction
from random import Random

import algebra
from plain_papers import form_times as plain_times
from undivide.forms import (LETTER, form_less, form_plus, form_times, fractions_of, letter_by_powers, mark_form,
                            most_marks, number_by_powers, number_form, same_forms, times_by_powers)

MARKS = ((LETTER, 0), (LETTER, 1), (0, 1), (0, 2), (7, 1))


def dict_of(form):
    return {product: Fraction(*f) for product, f in fractions_of(form)}


def some_form(chance):
    """Some form and the dict that it stands for."""
    form, plain = number_form((0, 1)), {}
    for _ in range(chance.randint(0, 5)):
        f = algebra.some_fraction(chance, 9)
        part, own = number_form(f), {(): Fraction(*f)} if f[0] else {}
        for mark in chance.choices(MARKS, k=chance.randint(0, 3)):
            part, own = form_times(part, mark_form(mark)), plain_times(own, {(mark,): Fraction(1)})
        form, plain = form_plus(form, part), algebra.added(plain, own)
    return form, {tuple(sorted(product)): f for product, f in plain.items()}


class Forms(unittest.TestCase):
    def test_like_products_are_put_together(self):
        x, mark = mark_form((LETTER, 0)), mark_form((3, 2))
        self.assertEqual(dict_of(form_plus(x, x)), {((LETTER, 0),): 2})
        self.assertEqual(dict_of(form_less(x, x)), {})
        one, other = form_times(x, mark), form_times(mark, x)
        self.assertEqual(dict_of(form_plus(one, other)), {((LETTER, 0), (3, 2)): 2})
        square = form_times(form_plus(x, mark), form_less(x, mark))
        self.assertEqual(dict_of(square), {((LETTER, 0),) * 2: 1, ((3, 2),) * 2: -1})

    def test_numbers(self):
        self.assertEqual(dict_of(number_form((0, 1))), {})
        self.assertEqual(dict_of(number_form((-2, 3))), {(): Fraction(-2, 3)})
        third = number_form((1, 3))
        self.assertEqual(fractions_of(form_plus(form_plus(third, third), third)), [((), (1, 1))])

    def test_against_dicts(self):
        chance = Random(51)
        for _ in range(300):
            (one, first), (other, second) = some_form(chance), some_form(chance)
            for made, plain in ((form_plus(one, other), algebra.added(first, second)),
                                (form_less(one, other), algebra.added(first, second, -1)),
                                (form_times(one, other), plain_times(first, second))):
                self.assertEqual(dict_of(made), {tuple(sorted(product)): f for product, f in plain.items()})
                self.assertTrue(all(made.numbers.values()))
                self.assertEqual(most_marks(made), max(map(len, plain), default=0))
            self.assertEqual(same_forms(one, other), first == second)
            self.assertTrue(same_forms(form_less(form_plus(one, other), other), one))

    def test_same_products_with_other_fractions(self):
        x, y = mark_form((LETTER, 0)), mark_form((LETTER, 1))
        self.assertFalse(same_forms(x, form_plus(x, x)))
        self.assertFalse(same_forms(x, y))
        self.assertFalse(same_forms(x, form_plus(x, y)))
        self.assertFalse(same_forms(form_plus(x, y), x))
        self.assertFalse(same_forms(number_form((1, 2)), number_form((1, 3))))

    def test_by_powers(self):
        x, z = letter_by_powers(0, 3), letter_by_powers(2, 3)
        both = times_by_powers(form_plus(x, z), form_less(x, number_by_powers((1, 2), 3)))
        self.assertEqual(fractions_of(both), [
            ((0, 0, 1), (-1, 2)), ((1, 0, 0), (-1, 2)), ((1, 0, 1), (1, 1)), ((2, 0, 0), (1, 1))])

    def test_what_numbers_are_over_does_not_grow(self):
        began = time.monotonic()
        half = number_form((1, 2))
        one = form_plus(half, half)
        for _ in range(200):
            one = form_times(one, one)
        self.assertEqual(dict_of(one), {(): 1})
        told = mark_form((LETTER, 0))
        for k in range(1, 801):
            told = form_plus(form_times(told, number_form(algebra.pair(Fraction(999983, 10 ** 5 + k)))), told)
        plain = Fraction(1)
        for k in range(1, 801):
            plain *= Fraction(999983, 10 ** 5 + k) + 1
        self.assertEqual(dict_of(told), {((LETTER, 0),): plain})
        self.assertLess(time.monotonic() - began, 10)
