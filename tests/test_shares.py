"""Points 23 and 24: shares and borders."""

import time
import unittest
from fractions import Fraction
from random import Random

import algebra
import makings
from plain_nets import HALF, NET, NODES, ONE, of, plain_polys, plain_share, some_net
from undivide.nets import degrees
from undivide.netted import net_of
from undivide.shares import border, share
from undivide.texts import read_reckoning


def told_nets():
    """Nets of reckonings, of few nodes."""
    chance = Random(101)
    while True:
        one = makings.some_reckoning(chance, chance.randint(4, 10), 8, ("plus", "less", "times", "times"))
        net = net_of(one, chance.randint(1, 6))
        if 4 <= len(net[1]) <= 20:
            yield net


def nets(many):
    """Nets made by hand and nets told, so many of each."""
    chance = Random(102)
    told = told_nets()
    return [some_net(chance) for _ in range(many)] + [next(told) for _ in range(many)]


class Share(unittest.TestCase):
    def test_alike(self):
        one = of(((0, 0), 1))
        for at in range(len(NODES)):
            self.assertEqual(share(NET, at, at), one)

    def test_letters(self):
        self.assertEqual(share(NET, 0, 1), ())
        self.assertEqual(share(NET, 1, 0), ())
        nodes = (("letter", 0), ("letter", 0), ("mix", ((ONE, 0),)))
        for u, v in ((0, 1), (1, 0), (1, 2), (0, 2), (2, 1)):
            self.assertEqual(share((("x",), nodes, (ONE, ())), u, v), ())

    def test_mixes(self):
        self.assertEqual(share(NET, 2, 0), of(((0, 0), 1)))
        self.assertEqual(share(NET, 2, 1), of(((0, 0), 2)))
        self.assertEqual(share(NET, 6, 3), of(((0, 0), -1)))
        self.assertEqual(share(NET, 6, 5), of(((0, 0), Fraction(1, 2))))

    def test_times_with_it_in_the_first_part(self):
        self.assertEqual(share(NET, 3, 2), of(((1, 0), 1), ((0, 1), 2)))
        self.assertEqual(share(NET, 4, 3), of(((1, 0), 1)))
        self.assertEqual(share(NET, 4, 2), of(((2, 0), 1), ((1, 1), 2)))
        self.assertEqual(share(NET, 5, 1), of(((0, 1), 2)))
        self.assertEqual(share(NET, 6, 2), of(((1, 0), -1), ((0, 1), Fraction(-3, 2))))

    def test_times_with_it_in_the_second_part_alone(self):
        nodes = (("letter", 0), ("letter", 1), ("times", 0, 1), ("times", 2, 1), ("mix", ((HALF, 0),)), ("times", 2, 4))
        net = (("x", "y"), nodes, (ONE, ()))
        self.assertEqual(share(net, 2, 1), ())
        self.assertEqual(share(net, 3, 1), ())
        self.assertEqual(share(net, 5, 4), ())
        self.assertEqual(share(net, 3, 0), of(((0, 2), 1)))
        self.assertEqual(share(net, 5, 2), of(((1, 0), Fraction(1, 2))))

    def test_shares_that_add_up_to_nought(self):
        # x + y less x: of x there is 1 less 1.
        nodes = (("letter", 0), ("letter", 1), ("mix", ((ONE, 0), (ONE, 1))), ("mix", (((-1, 1), 0), (ONE, 2))),
                 ("times", 3, 3), ("times", 2, 0), ("times", 3, 1), ("mix", ((HALF, 5), (ONE, 6))))
        net = (("x", "y"), nodes, (ONE, ()))
        self.assertEqual(share(net, 3, 0), ())
        self.assertEqual(share(net, 3, 1), of(((0, 0), 1)))
        self.assertEqual(share(net, 4, 0), ())
        self.assertEqual(share(net, 7, 0), of(((1, 0), Fraction(1, 2))))

    def test_of_one_degree_but_unlike(self):
        self.assertEqual(share(NET, 3, 5), ())
        self.assertEqual(share(NET, 5, 3), ())
        self.assertEqual(share(NET, 3, 6), ())
        self.assertEqual(share(NET, 0, 2), ())
        self.assertEqual(share(NET, 1, 2), ())

    def test_against_the_plain_definition(self):
        for net in nets(25):
            polys, reached = plain_polys(net), degrees(net)
            for u in range(len(net[1])):
                for v in range(len(net[1])):
                    if reached[v] <= reached[u]:
                        told = share(net, u, v)
                        self.assertEqual(told, algebra.told(plain_share(net, polys, u, v)))
                        self.assertTrue(all(sum(powers) == reached[u] - reached[v] for powers, f in told))

    def test_in_time(self):
        began = time.monotonic()
        nodes = (("letter", 0), ("letter", 1), ("letter", 2), ("mix", ((ONE, 0), (HALF, 1), ((999983, 999979), 2))))
        nodes += tuple(("mix", tuple((((999983, 999950 + part)), part) for part in range(3, at))) for at in range(4, 17))
        nodes += (("times", 16, 15), ("times", 17, 14), ("times", 18, 18))
        net = (("x", "y", "z"), nodes, (ONE, ()))
        for v in range(20):
            share(net, 19, v)
        self.assertLess(time.monotonic() - began, 5)


class Border(unittest.TestCase):
    def test_told(self):
        self.assertEqual(border(NET, 0), [])
        self.assertEqual(border(NET, 1), [3, 5])
        self.assertEqual(border(NET, 2), [4])
        self.assertEqual(border(NET, 3), [])
        one = read_reckoning("letters x\na = x * x\nb = a * a\nc = b * b\ngive c")
        net = net_of(one, 8)
        reached = degrees(net)
        self.assertEqual([[reached[at] for at in border(net, m)] for m in range(9)], [
            [], [2], [4], [4], [8], [8], [8], [8], []])
        self.assertEqual(border((("x",), (), (ONE, ())), 1), [])

    def test_each_m(self):
        for net in nets(25):
            reached = degrees(net)
            for m in range(8):
                told = border(net, m)
                self.assertIs(type(told), list)
                self.assertEqual(told, sorted(set(told)))
                for at, node in enumerate(net[1]):
                    over = node[0] == "times" and reached[at] > m and not reached[node[1]] > m
                    self.assertEqual(at in told, over)

    def test_told_lists_are_the_askers_own(self):
        first = border(NET, 1)
        first.append(9)
        first[0] = None
        self.assertEqual(border(NET, 1), [3, 5])

    def summed(self, net, m, u, reached, parts):
        """Over the border of m the sum of what parts tells of t, times t's share in u, as told."""
        total = {}
        for t in border(net, m):
            if reached[t] <= reached[u]:
                own = algebra.terms_of(share(net, u, t))
                total = algebra.added(total, algebra.multiplied(parts(t), own))
        return algebra.told(total)

    def test_nodes_as_sums_over_a_border(self):
        for net in nets(15):
            polys, reached = plain_polys(net), degrees(net)
            for u in range(len(net[1])):
                for m in range(1, reached[u]):
                    told = self.summed(net, m, u, reached, lambda t: polys[t])
                    self.assertEqual(told, algebra.told(polys[u]))

    def test_shares_as_sums_over_a_border(self):
        for net in nets(8):
            reached = degrees(net)
            for u in range(len(net[1])):
                for v in range(len(net[1])):
                    for m in range(reached[v], reached[u]):
                        told = self.summed(net, m, u, reached, lambda t: algebra.terms_of(share(net, t, v)))
                        self.assertEqual(told, share(net, u, v))

    def test_shares_in_products(self):
        for net in nets(15):
            polys, reached = plain_polys(net), degrees(net)
            for at, node in enumerate(net[1]):
                for v in range(len(net[1])):
                    if node[0] == "times" and v != at and reached[v] <= reached[node[1]]:
                        first = algebra.terms_of(share(net, node[1], v))
                        self.assertEqual(share(net, at, v), algebra.told(algebra.multiplied(first, polys[node[2]])))
