"""Point 22: nets of reckonings without quotients."""

import time
import unittest
from random import Random

import makings
from undivide.nets import degrees, look_net, net_poly, net_polys
from undivide.netted import net_of
from undivide.polys import degree, piece
from undivide.quotients import polynomial_of
from undivide.texts import read_reckoning
from undivide.undivided import undivided


class NetOf(unittest.TestCase):
    def made(self, reckoning, most):
        """The net that is told, looked at in all that holds of every one."""
        net = net_of(reckoning, most)
        self.assertIs(look_net(net), True)
        letters, nodes, (f, outs) = net
        self.assertEqual(letters, reckoning[0])
        self.assertLessEqual(len(nodes), len(reckoning[1]) * (most + 1) * (most + 1) + 3)
        self.assertEqual(len(outs), most)
        told = polynomial_of(reckoning)
        polys = net_polys(net)
        nothing = (0,) * len(letters)
        self.assertEqual(((nothing, f),) if f[0] else (), piece(told, 0))
        for k, out in enumerate(outs, 1):
            self.assertEqual(() if out is None else polys[out], piece(told, k))
            if out is not None:
                self.assertEqual(degrees(net)[out], k)
        if degree(told) <= most:
            self.assertEqual(net_poly(net), told)
        self.assertEqual(net_of(reckoning, most), net)
        return net

    def test_some(self):
        chance = Random(91)
        for _ in range(150):
            one = makings.some_reckoning(chance, chance.randint(3, 14), words=("plus", "less", "times", "times"))
            self.made(one, chance.randint(0, 8))

    def test_by_hand(self):
        one = read_reckoning("letters x y\na = x + 1/2\nb = a * y\nc = b - x\nd = c * c\ngive d")
        for most in range(9):
            self.made(one, most)

    def test_most_0(self):
        for text, f in (("letters x\na = x + 5/3\nb = a * a\ngive b", (25, 9)), ("letters x\ngive x", (0, 1)),
                        ("letters x\na = 7\ngive a", (7, 1))):
            net = self.made(read_reckoning(text), 0)
            self.assertEqual(net[2], (f, ()))

    def test_numbers_and_letters(self):
        for most in range(4):
            self.assertEqual(self.made((("x",), (("number", (-7, 2)),)), most)[2], ((-7, 2), (None,) * most))
            net = self.made((("x", "y"), (("letter", 0), ("letter", 1))), most)
            self.assertEqual([out is None for out in net[2][1]], [False, True, True][:most])

    def test_nought(self):
        for rows in ((("number", (0, 1)),), (("letter", 0), ("less", 0, 0)),
                     (("letter", 0), ("number", (0, 1)), ("times", 0, 1)),
                     (("letter", 0), ("number", (0, 1)), ("plus", 0, 1), ("times", 2, 1), ("times", 3, 3))):
            for most in (0, 1, 8):
                self.assertEqual(self.made((("x",), rows), most)[2], ((0, 1), (None,) * most))
        # Nought by meaning alone: like products of unlike sums.
        one = read_reckoning("letters x y\na = x + y\nb = x - y\nc = a * b\nd = x * x\ne = y * y\nf = d - e\ng = c - f\ngive g")
        self.assertEqual(polynomial_of(one), ())
        self.made(one, 4)
        self.assertEqual(net_poly(net_of(one, 4)), ())

    def test_pieces_that_add_up_to_nought(self):
        one = read_reckoning("letters x y\na = x * y\nb = a + x\nc = b - a\nd = c + 2\ngive d")
        self.made(one, 3)
        one = read_reckoning("letters x\na = x + 1\nb = a * a\nc = x * x\nd = b - c\ne = d - 1\nf = 2 * x\ng = e - f\ngive g")
        self.assertEqual(polynomial_of(one), ())
        self.made(one, 3)
        # x times (x - x): the parts of a product add up to nought, too.
        one = read_reckoning("letters x\na = x + 1\nb = x - 1\nc = a * b\ngive c")
        self.assertIsNone(self.made(one, 2)[2][1][0])

    def test_numbers_in_products(self):
        one = read_reckoning("letters x y\na = x * 2/3\nb = a * y\nc = b * 3/2\nd = c * c\ne = 0 - d\ngive e")
        self.made(one, 4)
        self.made(read_reckoning("letters x\na = x * 5\ngive a"), 1)
        self.made(read_reckoning("letters x\na = x * 5\nb = a + a\nc = b * x\ngive c"), 2)

    def test_rows_that_are_not_needed(self):
        rows = (("letter", 0), ("times", 0, 0), ("times", 1, 1), ("letter", 1), ("plus", 2, 1), ("times", 4, 3),
                ("plus", 0, 3))
        net = self.made((("x", "y"), rows), 8)
        self.assertEqual(net[1], self.made((("x", "y"), (("letter", 0), ("letter", 1), ("plus", 0, 1))), 8)[1])
        rows = (("number", (999983, 999979)),) + tuple(("times", at, at) for at in range(22)) + (("letter", 0),)
        began = time.monotonic()
        self.assertEqual(net_poly(net_of((("x",), rows), 8)), (((1,), (1, 1)),))
        self.assertLess(time.monotonic() - began, 2)

    def test_above_most(self):
        one = read_reckoning("letters x y\na = x + y\nb = a * a\nc = b * b\nd = c + b\ngive d")
        for most in range(6):
            net = self.made(one, most)
            self.assertTrue(all(k <= most for k in degrees(net)))
            # Nothing is there that no out rests on.
            needed = {out for out in net[2][1] if out is not None}
            for at in range(len(net[1]) - 1, -1, -1):
                self.assertIn(at, needed)
                word, *things = net[1][at]
                needed |= set(things if word == "times" else [part for f, part in things[0]] if word == "mix" else ())

    def test_each_row_the_one_ahead_twice(self):
        began = time.monotonic()
        net = self.made(makings.doubled("plus"), 8)
        self.assertEqual(net_poly(net), (((1,), (2 ** 23, 1)),))
        self.made(makings.doubled("less"), 8)
        self.made(makings.doubled("times", 4), 8)
        rows = (("letter", 0), ("number", (1, 3)), ("plus", 0, 1)) + tuple(
            ("plus" if at > 5 else "times", at, at) for at in range(2, 23))
        self.made((("x",), rows), 8)
        self.assertLess(time.monotonic() - began, 5)

    def test_what_undivided_told(self):
        chance = Random(92)
        for _ in range(25):
            one, told = makings.with_quotients(chance)
            point = makings.some_point(chance, one[0])
            if makings.runs(one, point):
                most = chance.randint(0, 6)
                self.made(undivided(one, point, most)[0], most)

    def test_what_undivided_told_of_many_rows(self):
        new, paper = undivided(makings.MANY, makings.MANY_POINT, 8)
        began = time.monotonic()
        net = net_of(new, 8)
        self.assertLess(time.monotonic() - began, 5)
        self.assertIs(look_net(net), True)
        self.assertLessEqual(len(net[1]), len(new[1]) * 81 + 3)
        self.assertEqual(net_poly(net), polynomial_of(new))
