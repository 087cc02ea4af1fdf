"""Point 21: nets looked at, their degrees and polynomials."""

import time
import unittest
from fractions import Fraction
from random import Random

import algebra
from plain_nets import HALF, NET, NODES, ONE, of, plain_polys, some_net
from undivide.errors import BadLetters, BadNode
from undivide.nets import degrees, look_net, net_poly, net_polys

# Nothing that stands here is a node, a fraction, or outs.
OTHERS = (None, "", "letter", "x", 0, 1, -1, (), (0,), (0, 0, 0), (None, None), ("x", "y"), ((0, 1),), (ONE, ONE))


class Look(unittest.TestCase):
    def refused(self, at, nodes, top=((0, 1), ()), letters=("x", "y")):
        with self.assertRaises(BadNode, msg=repr((nodes, top))) as kept:
            look_net((letters, nodes, top))
        self.assertEqual(kept.exception.at, at, repr((nodes, top)))

    def node_refused(self, *nodes):
        """Each of these is refused behind the good ones, also with others behind it and a bad top."""
        for node in nodes:
            self.refused(7, NODES + (node,))
            self.refused(7, NODES + (node, ("letter", 0)))
            self.refused(7, NODES + (node, ("letter", 9)), None)

    def top_refused(self, *tops):
        for top in tops:
            self.refused(7, NODES, top)

    def test_good_ones(self):
        self.assertIs(look_net(NET), True)
        for top in (((0, 1), ()), ((5, 1), (None,)), (ONE, (None, None, None, None)), (ONE, (0,)), (ONE, (1, 3)),
                    (ONE, (None, 5)), (ONE, (2, None, 4, None))):
            self.assertIs(look_net((("x", "y"), NODES, top)), True)
        for f in ((0, 1), (-7, 3), (10 ** 40, 7)):
            self.assertIs(look_net((("x",), (), (f, ()))), True)
            self.assertIs(look_net((("x",), (), (f, (None, None)))), True)
        self.assertIs(look_net((("a", "b", "c"), (("letter", 2), ("mix", (((-9, 5), 0),))), (ONE, (1,)))), True)

    def test_great_degrees(self):
        nodes = (("letter", 0),) + tuple(("times", at, at) for at in range(300))
        self.assertIs(look_net((("x",), nodes, (ONE, (0, 1, None, 2)))), True)
        self.refused(301, nodes, (ONE, (0, 1, 2)), ("x",))
        self.assertEqual(degrees((("x",), nodes, (ONE, ()))), [2 ** at for at in range(301)])

    def test_letters(self):
        for letters in ((), ("x", "x"), ("x", "y", "z", "u"), ("X",), ("end",), ("abcdef",), ("",)):
            for nodes in (NODES, (), None, (None,), (("letter", 9),)):
                for top in (((0, 1), ()), None):
                    with self.assertRaises(BadLetters):
                        look_net((letters, nodes, top))

    def test_nodes_are_no_tuple(self):
        for nodes in (None, "", "letter", 0, 7, -1):
            for top in (((0, 1), ()), None):
                self.refused(0, nodes, top)

    def test_nodes_of_other_kinds(self):
        self.node_refused(*OTHERS)
        self.node_refused(("letters", 0), ("Letter", 0), ("plus", 0, 1), ("less", 0, 1), ("number", ONE), ("over", 0, 1),
                          ("", 0), (None, 0), (0, 0), (("letter",), 0), ("letter",), ("mix",), ("times",))

    def test_letter_nodes(self):
        self.node_refused(("letter", 2), ("letter", -1), ("letter", 0, 0), ("letter", True))
        self.node_refused(*(("letter", thing) for thing in OTHERS if thing not in (0, 1)))
        self.refused(0, (("letter", 1),), letters=("x",))

    def test_mix_nodes(self):
        self.node_refused(("mix", ()), ("mix", ((ONE, 0),), 0), ("mix", (ONE, 0)), ("mix", ((ONE, 0), ONE)))
        self.node_refused(*(("mix", thing) for thing in OTHERS))
        self.node_refused(*(("mix", (thing,)) for thing in OTHERS))
        self.node_refused(*(("mix", ((ONE, 0), thing)) for thing in OTHERS))
        self.node_refused(("mix", ((ONE,),)), ("mix", ((ONE, 0, 0),)))

    def test_fractions_in_mixes(self):
        for f in ((0, 1), (2, 2), (2, 4), (1, 0), (1, -2), (0, 2), (-1, -1), 1, (1,), (1, 1, 1), ("1", 1), (1, "1"),
                  (True, 1), (1, None), "1/2", None, ()):
            self.node_refused(("mix", ((f, 0),)), ("mix", ((f, 0), (ONE, 1))), ("mix", ((ONE, 0), (f, 1))))

    def test_parts_of_mixes(self):
        # Not ahead, twice, falling, of unlike degrees.
        for part in (7, 8, 99, -1, -7, None, "0", (0,), True):
            self.node_refused(("mix", ((ONE, part),)), ("mix", ((ONE, 0), (ONE, part))))
        self.node_refused(("mix", ((ONE, 0), (ONE, 0))), ("mix", ((ONE, 0), ((-1, 1), 1), (HALF, 1))))
        self.node_refused(("mix", ((ONE, 1), (ONE, 0))), ("mix", ((ONE, 0), (ONE, 2), (ONE, 1))))
        self.node_refused(("mix", ((ONE, 0), (ONE, 3))), ("mix", ((ONE, 3), (ONE, 4))), ("mix", ((ONE, 2), (ONE, 3))))
        self.refused(0, (("mix", ((ONE, 0),)),))

    def test_times_nodes(self):
        self.node_refused(("times", 0), ("times", 0, 1, 0), ("times", (0, 1)))
        for part in (7, 8, 99, -1, None, "0", (0,), True, ()):
            self.node_refused(("times", part, 0), ("times", 4, part))
        # The first part has the lesser degree.
        self.node_refused(("times", 0, 3), ("times", 2, 6), ("times", 3, 4))
        self.refused(0, (("times", 0, 0),))
        for node in (("times", 0, 1), ("times", 3, 6), ("times", 4, 0), ("times", 6, 1)):
            self.assertIs(look_net((("x", "y"), NODES + (node,), (ONE, ()))), True)

    def test_top(self):
        self.top_refused(*OTHERS)
        self.top_refused((ONE,), (ONE, (), ()), ((), ONE), (ONE, None), (ONE, 0), (ONE, ""), (ONE, "ab"))
        self.top_refused(*((f, ()) for f in ((2, 2), (1, 0), (0, 2), (1, -1), 1, (1,), "1", None, (True, 1))))

    def test_outs(self):
        # Of another degree, not there, of other kinds.
        self.top_refused((ONE, (3,)), (ONE, (None, 0)), (ONE, (0, 3, 3)), (ONE, (0, 4)), (ONE, (None, None, None, 4)))
        self.top_refused(*((ONE, (out,)) for out in (7, -1, -7, "0", "", (), (0,), ONE, True, False)))
        self.top_refused(*((ONE, (None, out)) for out in (7, -1, -2, "3", (3,))))
        self.refused(0, (), (ONE, (0,)))

    def test_the_first_of_several(self):
        self.refused(1, NODES[:1] + (("letter", 7), ("letter", 7)), None)
        self.refused(0, (None, None), None)


class Degrees(unittest.TestCase):
    def test_told(self):
        self.assertEqual(degrees(NET), [1, 1, 1, 2, 3, 2, 2])
        self.assertEqual(degrees((("x",), (), (ONE, ()))), [])

    def test_told_lists_are_the_askers_own(self):
        for asked in (degrees, net_polys):
            first = asked(NET)
            self.assertIs(type(first), list)
            kept = list(first)
            first[0] = None
            first.append(1)
            self.assertEqual(asked(NET), kept)


class Polys(unittest.TestCase):
    def test_told(self):
        x, y = of(((1, 0), 1)), of(((0, 1), 1))
        square = of(((2, 0), 1), ((1, 1), 4), ((0, 2), 4))
        cube = of(((3, 0), 1), ((2, 1), 4), ((1, 2), 4))
        mixed = of(((2, 0), -1), ((1, 1), Fraction(-7, 2)), ((0, 2), -3))
        self.assertEqual(net_polys(NET), [x, y, of(((1, 0), 1), ((0, 1), 2)), square, cube, of(((1, 1), 1), ((0, 2), 2)),
                                          mixed])
        self.assertEqual(net_poly(NET), of(((0, 0), Fraction(-3, 7)), ((1, 0), 1), ((0, 1), 2), ((2, 0), -1),
                                           ((1, 1), Fraction(-7, 2)), ((0, 2), -3), ((3, 0), 1), ((2, 1), 4),
                                           ((1, 2), 4)))

    def test_no_nodes_and_no_outs(self):
        self.assertEqual(net_polys((("x",), (), (HALF, ()))), [])
        self.assertEqual(net_poly((("x", "y"), (), (HALF, ()))), of(((0, 0), Fraction(1, 2))))
        self.assertEqual(net_poly((("x", "y"), (), ((0, 1), ()))), ())
        self.assertEqual(net_poly((("x", "y"), (), ((0, 1), (None, None)))), ())
        self.assertEqual(net_poly((("x", "y"), NODES, ((0, 1), ()))), ())
        self.assertEqual(net_poly((("x", "y"), NODES, ((0, 1), (None, 5, None)))), of(((1, 1), 1), ((0, 2), 2)))

    def test_what_falls_away(self):
        nodes = (("letter", 0), ("letter", 0), ("mix", ((ONE, 0), ((-1, 1), 1))), ("times", 2, 0), ("times", 0, 1))
        net = (("x",), nodes, (ONE, (2, 4)))
        self.assertIs(look_net(net), True)
        self.assertEqual(degrees(net), [1, 1, 1, 2, 2])
        self.assertEqual(net_polys(net)[2:], [(), (), (((2,), ONE),)])
        self.assertEqual(net_poly(net), (((0,), ONE), ((2,), ONE)))

    def test_against_the_plain_definition(self):
        chance = Random(81)
        for _ in range(100):
            net = some_net(chance)
            self.assertIs(look_net(net), True)
            plain = plain_polys(net)
            self.assertEqual(net_polys(net), [algebra.told(part) for part in plain])
            for part, told in zip(plain, degrees(net)):
                self.assertTrue(all(sum(powers) == told for powers in part))
            total = algebra.number(Fraction(*net[2][0]), len(net[0]))
            for out in net[2][1]:
                total = algebra.added(total, plain[out] if out is not None else {})
            self.assertEqual(net_poly(net), algebra.told(total))

    def test_in_time(self):
        began = time.monotonic()
        nodes = (("letter", 0), ("letter", 1), ("letter", 2), ("mix", ((ONE, 0), (HALF, 1), ((999983, 999979), 2))),
                 ("times", 3, 3), ("times", 4, 3), ("times", 5, 5)) + tuple(
            ("mix", (((999983, 999950 + at), at + 6),)) for at in range(13))
        net = (("x", "y", "z"), nodes, (ONE, (3, 4, 5, None, None, 18)))
        self.assertIs(look_net(net), True)
        self.assertEqual(len(net_poly(net)), 1 + 3 + 6 + 10 + 28)
        self.assertLess(time.monotonic() - began, 5)
