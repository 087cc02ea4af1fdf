"""Points 33 and 34: reckonings held against one another."""

import time
import unittest
from itertools import product
from random import Random

import algebra
import makings
from undivide.alike import failing, parted
from undivide.errors import NoOver, NotPolynomial, OtherLetters
from undivide.polys import degree, poly_less, value
from undivide.quotients import good_point, polynomial_of
from undivide.texts import read_reckoning
from undivide.undivided import undivided

X = (("x",), (("letter", 0),))
# x over x less x, not good at row 2; 1 over x, no polynomial.
NOT_GOOD = (("x",), (("letter", 0), ("less", 0, 0), ("over", 0, 1), ("letter", 0)))
NONE = (("x",), (("letter", 0), ("number", (1, 1)), ("over", 1, 0)))


def read(*lines, letters="x"):
    return read_reckoning("\n".join((f"letters {letters}",) + lines))


def with_zeros(*zeros):
    """x less each of these, multiplied."""
    rows = [("letter", 0), ("number", (1, 1))]
    told = 1
    for zero in zeros:
        at = len(rows)
        rows += [("number", (zero, 1)), ("less", 0, at), ("times", told, at + 1)]
        told = at + 2
    return (("x",), tuple(rows))


def nought(letters=("x",)):
    return (letters, (("number", (0, 1)),))


def plain_point(one, other):
    """The first point, of the least greatest number, at which two polynomials are unlike; None where they are alike."""
    left = algebra.terms_of(poly_less(polynomial_of(one), polynomial_of(other)))
    if not left:
        return None
    many = len(one[0])
    for greatest in range(99):
        points = [place for place in product(range(greatest + 1), repeat=many) if max(place) == greatest]
        for place in sorted(points):
            if algebra.at_point(left, [(k, 1) for k in place]):
                return tuple((k, 1) for k in place)


def plain_failing(one, other, size):
    left = algebra.terms_of(poly_less(polynomial_of(one), polynomial_of(other)))
    many = len(one[0])
    same = sum(not algebra.at_point(left, [(k, 1) for k in place]) for place in product(range(size), repeat=many))
    if not left:
        return (size ** many, size ** many)
    return (same, max(sum(powers) for powers in left) * size ** (many - 1))


class Held(unittest.TestCase):
    def alike(self, one, other):
        self.assertEqual(polynomial_of(one), polynomial_of(other))
        self.assertEqual(parted(one, other), ("alike", polynomial_of(one)))
        self.assertEqual(parted(other, one), ("alike", polynomial_of(one)))

    def part(self, one, other, *place):
        point = tuple((k, 1) for k in place)
        self.assertEqual(plain_point(one, other), point)
        self.assertEqual(parted(one, other), ("part", point))
        self.assertEqual(parted(other, one), ("part", point))

    def refused(self, error, one, other, **fields):
        for deed in (lambda: parted(one, other), lambda: failing(one, other, 3), lambda: failing(one, other, 1)):
            with self.assertRaises(error) as kept:
                deed()
            for name, thing in fields.items():
                self.assertEqual(getattr(kept.exception, name), thing)


class Parted(Held):
    def test_alike(self):
        one = read("a = x + 1", "b = a * a", "give b")
        other = read("a = x * x", "b = 2 * x", "c = a + b", "d = c + 1", "give d")
        self.alike(one, other)
        self.alike(one, one)
        self.alike(X, X)
        self.alike(nought(), read("a = x - x", "give a"))
        self.alike(nought(), nought())

    def test_alike_with_quotients(self):
        one = read("a = x * x", "b = a - 1", "c = x - 1", "d = b / c", "give d")
        self.alike(one, read("a = x + 1", "give a"))
        self.alike(one, read("a = x * x", "b = a + x", "c = b / x", "give c"))

    def test_numbers(self):
        self.part(nought(), (("x",), (("number", (1, 3)),)), 0)
        self.part(nought(("x", "y", "z")), (("x", "y", "z"), (("number", (-1, 1)),)), 0, 0, 0)

    def test_first_point(self):
        self.part(X, nought(), 1)
        for many in range(8):
            self.part(with_zeros(*range(many)), nought(), many)
        self.part(with_zeros(0, 1, 3), nought(), 2)
        self.part(with_zeros(1, 2), nought(), 0)
        self.part(with_zeros(0, 2, 2, 1, 4), nought(), 3)

    def test_order_of_points(self):
        letters = ("x", "y")
        for lines, place in (
                (("give x",), (1, 0)), (("give y",), (0, 1)), (("a = x * y", "give a"), (1, 1)),
                (("a = x - y", "give a"), (0, 1)), (("a = x + y", "give a"), (0, 1)),
                # x (x - 1), y (y - 1), and x y (x - y): points of the same greatest number stand ahead.
                (("a = x - 1", "b = a * x", "give b"), (2, 0)), (("a = y - 1", "b = a * y", "give b"), (0, 2)),
                (("a = x - y", "b = a * x", "c = b * y", "give c"), (1, 2)),
                (("a = y - 2", "b = a * x", "c = x - 1", "d = b * c", "give d"), (2, 0)),
                (("a = x - 1", "b = a * x", "c = y - 1", "d = c * y", "e = b * d", "give e"), (2, 2)),
                (("a = x - 1", "b = a * x", "c = y * b", "give c"), (2, 1)),
                (("a = y - 1", "b = a * y", "c = x * b", "give c"), (1, 2))):
            self.part(read(*lines, letters="x y"), nought(letters), *place)
        one = read("a = x * y", "b = a * z", "c = z - 1", "d = b * c", "give d", letters="x y z")
        self.part(one, nought(("x", "y", "z")), 1, 1, 2)
        one = read("a = y - z", "b = x - z", "c = x - y", "d = a * b", "e = c * d", "give e", letters="x y z")
        self.part(one, nought(("x", "y", "z")), 0, 1, 2)

    def test_with_quotients(self):
        # At the point one of them stops: x x over x at 0, and (x x - x) over x less 0.
        over = read("a = x * x", "b = a / x", "give b")
        self.alike(over, X)
        self.part(over, read("a = x + 1", "give a"), 0)
        self.part(over, nought(), 1)
        one = read("a = x - 1", "b = a * a", "c = b / a", "d = c * x", "give d")
        self.part(one, nought(), 2)
        self.part(one, read("a = x * x", "give a"), 1)
        one = read("a = x - 1", "b = a * x", "c = x - 2", "d = b * c", "e = d / c", "give e")
        self.part(one, nought(), 2)

    def test_some(self):
        chance = Random(161)
        kinds = {"alike": 0, "part": 0}
        for _ in range(150):
            one, told = makings.with_quotients(chance)
            other = makings.some_reckoning(chance, chance.randint(2, 8), words=("plus", "less", "times"))
            if one[0] == other[0]:
                self.assertEqual(parted(one, other)[0], "alike" if told == polynomial_of(other) else "part")
                self.assertEqual(parted(one, other)[1], plain_point(one, other) or told)
                kinds[parted(one, other)[0]] += 1
            new = undivided(one, good_point(one), max(0, degree(told)))[0]
            self.assertEqual(parted(one, new), ("alike", told))
        self.assertGreater(kinds["part"], 20)

    def test_told_ones_of_many_rows(self):
        began = time.monotonic()
        new, paper = undivided(makings.MANY, makings.MANY_POINT, 8)
        more = (new[0], new[1] + (("number", (1, 1)), ("plus", len(new[1]) - 1, len(new[1]))))
        self.assertEqual(parted(new, new)[0], "alike")
        self.assertEqual(parted(new, more), ("part", ((0, 1),) * 3))
        self.assertEqual(failing(new, more, 9), (0, 0))
        self.assertLess(time.monotonic() - began, 10)


class Refused(Held):
    def test_other_letters(self):
        two = (("x", "y"), (("letter", 0),))
        for one, other in ((X, (("y",), X[1])), (X, two), (two, X), (two, (("y", "x"), two[1])),
                           (two, (("x", "z"), two[1]))):
            self.refused(OtherLetters, one, other)

    def test_other_letters_ahead_of_all(self):
        for bad in (NOT_GOOD, NONE):
            other = (("y",), bad[1])
            for one in (X, NOT_GOOD, NONE):
                self.refused(OtherLetters, one, other)
                self.refused(OtherLetters, other, one)

    def test_not_good(self):
        for other in (X, NONE):
            self.refused(NoOver, NOT_GOOD, other, at=2)
        self.refused(NoOver, X, NOT_GOOD, at=2)
        twice = (("x",), (("letter", 0), ("number", (0, 1)), ("over", 0, 0), ("over", 0, 1), ("over", 0, 1)))
        self.refused(NoOver, twice, NOT_GOOD, at=3)
        self.refused(NoOver, NOT_GOOD, twice, at=2)

    def test_no_polynomial(self):
        self.refused(NotPolynomial, NONE, X, which=0)
        self.refused(NotPolynomial, X, NONE, which=1)
        self.refused(NotPolynomial, NONE, NONE, which=0)
        # By the first, both of these, ahead of the second.
        self.refused(NotPolynomial, NONE, NOT_GOOD, which=0)
        self.refused(NoOver, NOT_GOOD, NONE, at=2)


class Failing(Held):
    def told(self, one, other, size):
        pair = failing(one, other, size)
        self.assertIs(type(pair), tuple)
        self.assertEqual(pair, plain_failing(one, other, size))
        self.assertEqual(failing(other, one, size), pair)
        self.assertLessEqual(pair[0], pair[1])
        return pair

    def test_by_hand(self):
        self.assertEqual(self.told(with_zeros(0, 1, 3), nought(), 9), (3, 3))
        self.assertEqual(self.told(with_zeros(0, 1, 3), nought(), 3), (2, 3))
        self.assertEqual(self.told(with_zeros(0, 1, 3), nought(), 1), (1, 3))
        self.assertEqual(self.told(with_zeros(5), nought(), 5), (0, 1))
        one = read("a = x * y", "give a", letters="x y")
        self.assertEqual(self.told(one, nought(("x", "y")), 4), (7, 8))
        one = read("a = x - y", "give a", letters="x y z")
        self.assertEqual(self.told(one, nought(("x", "y", "z")), 3), (9, 9))

    def test_numbers(self):
        for letters in (("x",), ("x", "y"), ("x", "y", "z")):
            for size in range(1, 10):
                self.assertEqual(self.told(nought(letters), (letters, (("number", (1, 7)),)), size), (0, 0))

    def test_alike(self):
        for letters in (("x",), ("x", "y"), ("x", "y", "z")):
            one = (letters, (("letter", 0), ("times", 0, 0)))
            for size in range(1, 10):
                self.assertEqual(self.told(one, one, size), (size ** len(letters),) * 2)
                self.assertEqual(self.told(nought(letters), nought(letters), size), (size ** len(letters),) * 2)

    def test_all_sizes(self):
        chance = Random(162)
        for size in range(1, 10):
            for _ in range(6 if size < 7 else 2):
                one = makings.some_reckoning(chance, chance.randint(2, 7), 6, ("plus", "less", "times"), 3)
                other = (one[0], one[1][:chance.randint(1, len(one[1]))])
                self.told(one, other, size)
                self.told(one, nought(one[0]), size)

    def test_with_quotients(self):
        over = read("a = x * x", "b = a / x", "give b")
        self.assertEqual(self.told(over, nought(), 3), (1, 1))
        self.assertEqual(self.told(over, X, 3), (3, 3))

    def test_in_time(self):
        began = time.monotonic()
        # (x + y + z + 1/3) to its tenth, less a number: 286 products at 729 points.
        one = read("a = x + y", "b = a + z", "c = b + 1/3", "d = c * c", "e = d * d", "f = e * e", "g = f * d", "give g",
                   letters="x y z")
        self.assertEqual(failing(one, nought(("x", "y", "z")), 9), (0, 810))
        self.assertEqual(value(polynomial_of(one), ((0, 1),) * 3), (1, 3 ** 10))
        self.assertLess(time.monotonic() - began, 5)
