"""Point 5: polynomials."""

import time
import unittest
from random import Random

import algebra
from undivide.polys import (
    degree, moved, parted_by, piece, poly, poly_less, poly_plus, poly_times, value,
)

THIRTY = 10 ** 30 - 1
X = (((1,), (1, 1)),)
ONE = (((0,), (1, 1)),)


def of(*pairs):
    """A polynomial in one letter of pairs (power, whole number)."""
    return poly([((power,), (n, 1)) for power, n in pairs])


def some_polys(seed, many_times=60):
    """Triples (letters, poly, poly), with their dicts behind, of all sorts."""
    chance = Random(seed)
    for most in (3, 1000, THIRTY):
        for many in (1, 2, 3):
            for _ in range(many_times // 9 + 1):
                one = algebra.some_terms(chance, many, 6, 4, most)
                other = algebra.some_terms(chance, many, 6, 4, most)
                yield chance, many, one, other


class Making(unittest.TestCase):
    def test_any_order(self):
        self.assertEqual(poly([((2,), (1, 1)), ((0,), (3, 4)), ((1,), (-1, 2))]),
                         (((0,), (3, 4)), ((1,), (-1, 2)), ((2,), (1, 1))))
        self.assertEqual(poly([((1, 0), (1, 1)), ((0, 2), (1, 1)), ((0, 0), (5, 1))]),
                         (((0, 0), (5, 1)), ((0, 2), (1, 1)), ((1, 0), (1, 1))))

    def test_like_powers_are_added(self):
        self.assertEqual(poly([((1,), (1, 2)), ((0,), (1, 1)), ((1,), (1, 3))]), (((0,), (1, 1)), ((1,), (5, 6))))
        self.assertEqual(poly([((1, 2, 0), (1, 2))] * 6), (((1, 2, 0), (3, 1)),))

    def test_what_adds_up_to_nought_is_left_out(self):
        self.assertEqual(poly([((1,), (1, 2)), ((0,), (1, 1)), ((1,), (-1, 2))]), (((0,), (1, 1)),))
        self.assertEqual(poly([((1,), (1, 2)), ((1,), (-1, 2)), ((1,), (3, 1))]), (((1,), (3, 1)),))
        self.assertEqual(poly([((4,), (0, 1)), ((0,), (2, 1))]), (((0,), (2, 1)),))
        self.assertEqual(poly([((1, 1), (0, 1))]), ())
        self.assertEqual(poly([]), ())

    def test_what_is_handed_in_stays(self):
        terms = [((2,), (1, 1)), ((0,), (0, 1)), ((2,), (-1, 1)), ((1,), (1, 3))]
        first = list(terms)
        told = poly(terms)
        self.assertEqual(terms, first)
        terms.append(((9,), (1, 1)))
        self.assertEqual(told, (((1,), (1, 3)),))

    def test_kinds(self):
        told = poly([((2,), (1, 1)), ((0,), (1, 1))])
        self.assertIs(type(told), tuple)
        for one in told:
            self.assertEqual([type(one), type(one[0]), type(one[1])], [tuple, tuple, tuple])


class Reckoning(unittest.TestCase):
    def test_small_ones(self):
        self.assertEqual(poly_plus(of((1, 1), (0, 1)), of((1, -1), (2, 5))), of((0, 1), (2, 5)))
        self.assertEqual(poly_less(of((1, 1), (0, 1)), of((1, 1), (2, 5))), of((0, 1), (2, -5)))
        self.assertEqual(poly_times(of((1, 1), (0, 1)), of((1, 1), (0, -1))), of((2, 1), (0, -1)))
        self.assertEqual(poly_times((((1, 0), (1, 2)),), (((0, 1), (2, 3)),)), (((1, 1), (1, 3)),))

    def test_with_nought(self):
        one = of((3, 2), (0, -1))
        self.assertEqual(poly_plus(one, ()), one)
        self.assertEqual(poly_plus((), one), one)
        self.assertEqual(poly_less(one, ()), one)
        self.assertEqual(poly_less((), one), of((3, -2), (0, 1)))
        self.assertEqual(poly_less(one, one), ())
        self.assertEqual(poly_times(one, ()), ())
        self.assertEqual(poly_times((), one), ())
        self.assertEqual([poly_plus((), ()), poly_less((), ()), poly_times((), ())], [(), (), ()])

    def test_with_one(self):
        one = of((3, 2), (0, -1))
        self.assertEqual(poly_times(one, ONE), one)
        self.assertEqual(poly_times(ONE, one), one)
        self.assertEqual(poly_times(X, one), of((4, 2), (1, -1)))
        self.assertEqual(poly_times(one, of((0, 2))), of((3, 4), (0, -2)))
        self.assertEqual(poly_times(one, of((0, -1))), of((3, -2), (0, 1)))

    def test_against_the_plain_definition(self):
        for _, _, one, other in some_polys(7):
            first, second = algebra.told(one), algebra.told(other)
            self.assertEqual(poly_plus(first, second), algebra.told(algebra.added(one, other)))
            self.assertEqual(poly_less(first, second), algebra.told(algebra.added(one, other, -1)))
            self.assertEqual(poly_times(first, second), algebra.told(algebra.multiplied(one, other)))

    def test_great_ones_in_time(self):
        grown = poly([((1, 0, 0), (123457, 999983)), ((0, 1, 0), (7, 654323)), ((0, 0, 1), (5, 3)),
                      ((0, 0, 0), (-999979, 2))])
        began = time.monotonic()
        cube = poly_times(grown, poly_times(grown, grown))
        sixth = poly_times(cube, cube)
        self.assertEqual(parted_by(poly_times(sixth, sixth), sixth), sixth)
        self.assertLess(time.monotonic() - began, 20)


class Looking(unittest.TestCase):
    def test_degree(self):
        self.assertEqual(degree(()), -1)
        self.assertEqual(degree(of((0, 5))), 0)
        self.assertEqual(degree(of((0, 5), (7, 1))), 7)
        self.assertEqual(degree(poly([((3, 0, 1), (1, 1)), ((0, 5, 0), (1, 1)), ((2, 2, 2), (1, 9))])), 6)

    def test_piece(self):
        whole = poly([((2, 0), (1, 1)), ((1, 1), (1, 2)), ((0, 1), (3, 1)), ((0, 0), (7, 1))])
        self.assertEqual(piece(whole, 2), (((1, 1), (1, 2)), ((2, 0), (1, 1))))
        self.assertEqual(piece(whole, 1), (((0, 1), (3, 1)),))
        self.assertEqual(piece(whole, 0), (((0, 0), (7, 1)),))
        self.assertEqual(piece(whole, 3), ())
        self.assertEqual(piece(of((0, 1), (5, 1)), 2), ())
        self.assertEqual(piece((), 0), ())

    def test_value(self):
        whole = poly([((2, 1), (1, 2)), ((0, 0), (-3, 1))])
        self.assertEqual(value(whole, ((2, 3), (3, 1))), (-7, 3))
        self.assertEqual(value(whole, ((0, 1), (3, 1))), (-3, 1))
        self.assertEqual(value(whole, ((0, 1), (0, 1))), (-3, 1))
        self.assertEqual(value((), ((5, 1),)), (0, 1))
        self.assertEqual(value(of((3, 1)), ((-1, 2),)), (-1, 8))
        self.assertEqual(value(of((2, 1), (0, -4)), ((2, 1),)), (0, 1))

    def test_value_against_the_plain_definition(self):
        for chance, many, one, _ in some_polys(8):
            point = tuple(algebra.some_fraction(chance, 9) for _ in range(many))
            self.assertEqual(value(algebra.told(one), point), algebra.pair(algebra.at_point(one, point)))


class Moving(unittest.TestCase):
    def test_small_ones(self):
        self.assertEqual(moved(of((2, 1)), ((3, 1),)), of((2, 1), (1, 6), (0, 9)))
        self.assertEqual(moved(of((2, 1)), ((0, 1),)), of((2, 1)))
        self.assertEqual(moved(of((1, 2)), ((-1, 2),)), of((1, 2), (0, -1)))
        self.assertEqual(moved(of((0, 2)), ((5, 1),)), of((0, 2)))
        self.assertEqual(moved((), ((5, 1), (1, 2))), ())
        self.assertEqual(moved((((1, 1), (1, 1)),), ((1, 1), (2, 1))),
                         poly([((1, 1), (1, 1)), ((1, 0), (2, 1)), ((0, 1), (1, 1)), ((0, 0), (2, 1))]))

    def test_against_the_plain_definition(self):
        for chance, many, one, _ in some_polys(9):
            point = tuple(algebra.some_fraction(chance, chance.choice((1, 3, 99))) for _ in range(many))
            told = moved(algebra.told(one), point)
            self.assertEqual(told, algebra.told(algebra.moved(one, point)))
            back = tuple((-n, d) for n, d in point)
            self.assertEqual(moved(told, back), algebra.told(one))


class Parting(unittest.TestCase):
    def test_small_ones(self):
        self.assertEqual(parted_by(of((2, 1), (0, -1)), of((1, 1), (0, 1))), of((1, 1), (0, -1)))
        self.assertEqual(parted_by(of((3, 1)), of((1, 2))), (((2,), (1, 2)),))
        self.assertEqual(parted_by(of((2, 3), (0, 1)), of((0, 3))), (((0,), (1, 3)), ((2,), (1, 1))))
        self.assertEqual(parted_by((), of((1, 1), (0, 1))), ())
        self.assertEqual(parted_by(of((4, -2), (1, 7)), of((4, -2), (1, 7))), ONE)
        self.assertEqual(parted_by(of((4, -2), (1, 7)), of((0, -2))), poly([((4,), (1, 1)), ((1,), (-7, 2))]))

    def test_none(self):
        self.assertIsNone(parted_by(of((2, 1), (0, 1)), of((1, 1), (0, 1))))
        self.assertIsNone(parted_by(of((0, 1)), of((1, 1))))
        self.assertIsNone(parted_by(of((1, 1)), of((2, 1))))
        self.assertIsNone(parted_by(of((2, 1), (1, 1), (0, 1)), of((1, 2), (0, 1))))
        self.assertIsNone(parted_by((((1, 0), (1, 1)),), (((0, 1), (1, 1)),)))
        self.assertIsNone(parted_by((((2, 0), (1, 1)), ((0, 2), (1, 1))), (((1, 0), (1, 1)), ((0, 1), (1, 1)))))

    def test_products_by_each_part(self):
        for _, _, one, other in some_polys(10, 150):
            both = algebra.told(algebra.multiplied(one, other))
            first, second = algebra.told(one), algebra.told(other)
            if first:
                self.assertEqual(parted_by(both, first), second)
            if second:
                self.assertEqual(parted_by(both, second), first)

    def test_told_ones_are_right_and_nones_too(self):
        for _, many, one, other in some_polys(11, 150):
            first, second = algebra.told(one), algebra.told(other)
            if degree(second) < 1:
                continue
            both = poly_times(first, second)
            off = poly_plus(both, (((0,) * many, (1, 7)),))
            # The two products differ by a number, which the second, being of degree 1 at least, can't part.
            self.assertIsNone(parted_by(off, second))

    def test_letters_stay_within_the_degree(self):
        one = poly([((12, 0, 0), (1, 1))])
        other = poly([((1, 0, 0), (1, 1)), ((0, 3, 0), (-1, 1)), ((0, 0, 3), (-1, 2)), ((0, 2, 1), (5, 1))])
        began = time.monotonic()
        self.assertIsNone(parted_by(one, other))
        self.assertLess(time.monotonic() - began, 5)
