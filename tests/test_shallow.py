"""Points 25 and 26: few rows one behind another."""

import time
import unittest
from random import Random

import makings
from plain_nets import HALF, NET, NODES, ONE, rich_net, some_net
from plain_shallow import plain_shallow_refusal
from undivide.nets import degrees, look_net, net_poly
from undivide.netted import net_of
from undivide.quotients import polynomial_of
from undivide.reckonings import depth, is_whole, look_reckoning
from undivide.shallow import depth_told, rows_told, shallow
from undivide.shallowpapers import shallow_holds
from undivide.texts import read_reckoning

NOUGHT = (0, 1)


def least(many):
    """The least h from 0 on with 2 ** h not less than many."""
    return next(h for h in range(99) if 2 ** h >= many)


def power_net(high, letters=("x",), top=NOUGHT):
    """A net of the powers of the first letter up to this one, each the one ahead times the letter."""
    nodes = (("letter", 0),) + tuple(("times", at, 0) for at in range(high - 1))
    return (letters, nodes, (top, (None,) * (high - 1) + (high - 1,)))


class Told(unittest.TestCase):
    def both(self, net):
        return depth_told(net), rows_told(net)

    def test_by_hand(self):
        self.assertEqual(self.both((("x",), (), (NOUGHT, ()))), (1, 5))
        self.assertEqual(self.both((("x", "y"), (), (ONE, (None, None)))), (2, 6))
        self.assertEqual(self.both((("x", "y", "z"), (), (ONE, (None, None)))), (3, 7))
        # One letter: (1 + 1) (0 + 3 + 2) + 1 + 1 + 4.
        self.assertEqual(self.both((("x",), (("letter", 0),), (NOUGHT, (0,)))), (2, 16))
        # Two letters, seven nodes, three of them times, degree 3: 1 + 1 + 2 (4 + 4) + 2; 56 (12 + 6 + 2) + 2 + 3 + 4.
        self.assertEqual(self.both(NET), (20, 1129))

    def test_outs_of_none(self):
        for outs, high in (((), 0), ((None,), 0), ((None,) * 9, 0), ((2,), 1), ((2, None, None), 1), ((None, 3), 2),
                           ((2, 3, None, None), 2), ((None, None, 4), 3), ((2, 6, 4), 3)):
            told = self.both((("x", "y"), NODES, (HALF, outs)))
            self.assertEqual(told, (2 + 8 * least(high) + least(high + 1), 1126 + high), outs)

    def test_degrees(self):
        # Powers of two and one more, and those beside them.
        for high in (1, 2, 3, 4, 5, 6, 7, 8, 9, 15, 16, 17, 31, 32, 33, 64, 65):
            for letters in (("x",), ("x", "y"), ("x", "y", "z")):
                n, s, times = len(letters), high, high - 1
                step = 4 + 2 * least(times)
                self.assertEqual(self.both(power_net(high, letters)), (
                    1 + least(n) + least(high) * step + least(high + 1),
                    (s + s * s) * (4 * times + 3 * n + 2) + n + high + 4))

    def test_numbers_of_times(self):
        for times in (0, 1, 2, 3, 4, 5, 8, 9, 16, 17, 18):
            nodes = (("letter", 0),) + (("times", 0, 0),) * times + (("letter", 0),)
            outs = (None, 1) if times else (0,)
            high = 2 if times else 1
            self.assertEqual(self.both((("x",), nodes, (NOUGHT, outs))), (
                1 + least(high) * (4 + 2 * least(times)) + least(high + 1),
                ((times + 2) + (times + 2) ** 2) * (4 * times + 5) + 1 + high + 4))

    def test_some(self):
        chance = Random(111)
        for _ in range(200):
            net = some_net(chance, chance.randint(1, 20))
            letters, nodes, (f, outs) = net
            n, s, times = len(letters), len(nodes), sum(node[0] == "times" for node in nodes)
            high = max([k for k, out in enumerate(outs, 1) if out is not None], default=0)
            self.assertEqual(depth_told(net), 1 + least(n) + least(high) * (4 + 2 * least(times)) + least(high + 1))
            self.assertEqual(rows_told(net), (s + s * s) * (4 * times + 3 * n + 2) + n + high + 4)


class Shallow(unittest.TestCase):
    def made(self, net):
        """What is told of a net, looked at in all that holds of every one."""
        self.assertIs(look_net(net), True)
        told = shallow(net)
        self.assertIs(type(told), tuple)
        reckoning, paper = told
        self.assertIs(look_reckoning(reckoning), True)
        self.assertTrue(is_whole(reckoning))
        self.assertEqual(reckoning[0], net[0])
        self.assertEqual(polynomial_of(reckoning), net_poly(net), net)
        self.assertLessEqual(depth(reckoning), depth_told(net), net)
        self.assertLessEqual(len(reckoning[1]), rows_told(net), net)
        self.assertIs(type(paper), tuple)
        self.assertEqual(len(paper), len(reckoning[1]))
        self.assertIs(shallow_holds(net, reckoning, paper), True)
        self.assertIsNone(plain_shallow_refusal(net, reckoning, paper))
        self.assertEqual(shallow(net), told)
        return told

    def test_some(self):
        chance = Random(112)
        for _ in range(150):
            self.made(some_net(chance, chance.randint(1, 20)))
        for _ in range(150):
            self.made(rich_net(chance, chance.randint(3, 20), chance.choice((2, 3, 4, 5, 6, 6))))

    def test_by_hand(self):
        self.made(NET)
        for outs in ((), (0,), (None, 6), (2, 5, 4), (None, None, 4, None, None)):
            for f in (NOUGHT, (-7, 9)):
                self.made((("x", "y"), NODES, (f, outs)))

    def test_no_nodes(self):
        for f in (NOUGHT, ONE, (-5, 3)):
            for outs in ((), (None,), (None,) * 6):
                reckoning, paper = self.made((("x", "y"), (), (f, outs)))
                self.assertEqual(polynomial_of(reckoning), (((0, 0), f),) if f[0] else ())

    def test_no_outs(self):
        for nodes in (NODES, NODES[:1], power_net(6)[1]):
            for outs in ((), (None,), (None,) * 4):
                for f in (NOUGHT, HALF):
                    self.made((("x", "y"), nodes, (f, outs)))

    def test_letters_and_mixes_alone(self):
        letters = ("x", "y", "z")
        nodes = tuple(("letter", k) for k in range(3)) + (
            ("mix", ((ONE, 0), ((-1, 1), 1), (HALF, 2))), ("mix", ((ONE, 3),)), ("mix", (((-2, 3), 0), (ONE, 4))),
            ("mix", tuple((ONE, at) for at in range(6))))
        for out in range(len(nodes)):
            for f in (NOUGHT, (5, 7)):
                self.made((letters, nodes, (f, (out,))))
                self.made((letters, nodes, (f, (out, None))))

    def test_one_product_over_another(self):
        for high in range(2, 10):
            self.made(power_net(high))
            self.made(power_net(high, ("x", "y", "z"), HALF))
        # Squares of squares, and sums of letters in the place of letters.
        nodes = (("letter", 0), ("letter", 1), ("mix", ((ONE, 0), (HALF, 1))), ("mix", (((-1, 1), 0), (ONE, 1))))
        nodes += (("times", 2, 3), ("times", 4, 2), ("times", 5, 3), ("times", 6, 2), ("times", 7, 0), ("times", 4, 4),
                  ("times", 9, 4))
        for outs in ((None, 4), (2, 4, 5), (None, None, None, 6), (None, None, None, 9), (3, 4, 5, 6, 7, 8),
                     (3, 4, 5, 9, 7, 10)):
            self.made((("x", "y"), nodes, (ONE, outs)))

    def test_many_products_and_a_mix_of_them(self):
        letters = ("x", "y", "z")
        nodes = tuple(("letter", k) for k in range(3)) + (("mix", ((ONE, 0), ((2, 1), 1), ((-3, 1), 2))),)
        pairs = [(one, other) for one in range(4) for other in range(4)]
        for many in (1, 2, 3, 4, 5, 8, 9, 15):
            products = tuple(("times", one, other) for one, other in pairs[:many])
            mix = ("mix", tuple(((at + 1, 1), 4 + at) for at in range(many)))
            net = (letters, nodes + products + (mix,), (NOUGHT, (None, 4 + many)))
            self.made(net)
            over = (("times", 4 + many, 3), ("times", 4 + many, 4 + many)) if many < 15 else ()
            self.made((letters, net[1] + over, ((1, 3), (3, 4 + many) + (() if many == 15 else (5 + many, 6 + many)))))

    def test_nodes_used_again(self):
        nodes = (("letter", 0), ("letter", 1), ("mix", ((ONE, 0), (ONE, 1))), ("times", 2, 2), ("times", 3, 2),
                 ("mix", ((ONE, 4),)), ("times", 3, 3), ("times", 5, 0), ("mix", ((ONE, 6), ((-1, 1), 7))),
                 ("times", 8, 3), ("times", 8, 2), ("times", 10, 2), ("mix", ((HALF, 9), (HALF, 11))))
        for outs in ((2, 3, 4, 8, 10, 12), (None, None, 5), (None, None, 5, 7), (0, 3, 5, 6, 10, 11)):
            self.made((("x", "y"), nodes, (NOUGHT, outs)))

    def test_nodes_that_no_out_needs(self):
        more = (("times", 0, 0), ("times", 7, 7), ("mix", ((ONE, 8),)), ("letter", 1))
        for outs in ((2, 6, 4), (0,), (), (None, 3)):
            reckoning, paper = self.made((("x", "y"), NODES + more, (ONE, outs)))
            self.assertEqual(reckoning, self.made((("x", "y"), NODES, (ONE, outs)))[0])

    def test_twenty_nodes(self):
        chance = Random(113)
        for _ in range(60):
            net = rich_net(chance, 20, 6)
            self.assertEqual(len(net[1]), 20)
            self.made(net)

    def test_deepest_degrees(self):
        chance = Random(114)
        seen = 0
        while seen < 40:
            net = rich_net(chance, 20, 6)
            seen += len(net[2][1]) == 6 and net[2][1][5] is not None
            self.made(net)

    def test_parts_that_add_up_to_nought(self):
        # x, y, x + y, that less x less y: nought, times x, times y, a sum of these.
        nodes = (("letter", 0), ("letter", 1), ("mix", ((ONE, 0), (ONE, 1))),
                 ("mix", (((-1, 1), 0), ((-1, 1), 1), (ONE, 2))), ("times", 0, 3), ("times", 4, 1),
                 ("mix", ((ONE, 4),)), ("mix", ((ONE, 4), ((-1, 1), 6))), ("times", 7, 0), ("times", 2, 2),
                 ("times", 9, 7), ("mix", ((ONE, 7), (ONE, 9))), ("times", 11, 2), ("times", 12, 12))
        reached = degrees((("x", "y"), nodes, (ONE, ())))
        for out, high in enumerate(reached):
            for f in (NOUGHT, (3, 4)):
                self.made((("x", "y"), nodes, (f, (None,) * (high - 1) + (out,))))

    def test_a_top_with_and_without_nought(self):
        for high in (1, 2, 3, 6):
            for f in (NOUGHT, ONE, (-1, 1), (999983, 999979)):
                self.made(power_net(high, ("x", "y"), f))

    def test_what_net_of_told(self):
        chance = Random(115)
        for _ in range(100):
            one = makings.some_reckoning(chance, chance.randint(2, 8), words=("plus", "less", "times", "times"))
            net = net_of(one, chance.randint(0, 3))
            self.made(net)
        one = read_reckoning("letters x y z\na = x + 1/2\nb = a * y\nc = b - z\nd = c * c\ne = d * a\ngive e")
        for most in range(4):
            self.made(net_of(one, most))

    def test_told_nets_of_many_nodes(self):
        began = time.monotonic()
        rows = (("letter", 0), ("letter", 1), ("letter", 2), ("number", (1, 3)), ("plus", 0, 3))
        sizes = []
        for first in ("plus", "times"):
            for second in ("plus", "less", "times"):
                more = ((first, 4, 1), (second, 5, 2), ("times", 6, 5))
                net = net_of((("x", "y", "z"), rows + more), 3)
                sizes.append(len(net[1]))
                self.made(net)
        rows = (("letter", 0), ("number", (1, 3)), ("plus", 0, 1)) + tuple(("times", at, at) for at in range(2, 7))
        net = net_of((("x",), rows), 3)
        self.made(net)
        self.assertGreaterEqual(max(sizes), 10)
        self.assertLess(time.monotonic() - began, 10)

    def test_great_fractions(self):
        f, g = (999983, 999979), (-999961, 999959)
        nodes = (("letter", 0), ("letter", 1), ("mix", ((f, 0), (g, 1))), ("times", 2, 2), ("mix", ((g, 3),)),
                 ("times", 4, 2), ("times", 5, 4), ("times", 6, 2), ("mix", ((f, 7),)))
        self.made((("x", "y"), nodes, (f, (2, 4, 5, None, 6, 8))))

    def test_in_time(self):
        chance = Random(116)
        nets = [rich_net(chance, 20, 6) for _ in range(50)]
        began = time.monotonic()
        for net in nets:
            shallow(net)
        self.assertLess(time.monotonic() - began, 5)
