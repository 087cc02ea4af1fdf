"""Points 27 and 28: papers of nets let by and refused."""

import time
import unittest
from fractions import Fraction
from random import Random

import algebra
import makings
from plain_nets import HALF, ONE, rich_net, some_net
from plain_shallow import PlainNet, plain_shallow_refusal
from undivide.errors import NoPaper
from undivide.nets import look_net, net_poly
from undivide.netted import net_of
from undivide.quotients import polynomial_of
from undivide.shallow import shallow
from undivide.shallowpapers import shallow_holds

NOUGHT, LESS = (0, 1), (-1, 1)
# x, x x, x x x, x x x x, by the one ahead times x.
POWERS = (("x",), (("letter", 0), ("times", 0, 0), ("times", 1, 0), ("times", 2, 0)), (NOUGHT, (None, None, None, 3)))
# By its own hand: x x as node 1, x x as the share of node 1 in node 3, and both multiplied: node 3 by 2 and by 3.
POWER_ROWS = (("letter", 0), ("times", 0, 0), ("times", 0, 0), ("times", 1, 0), ("times", 3, 0))
POWER_PAPER = (None, (1, 1), (3, 1, 2), None, (3, 2))


class OwnRows:
    """A reckoning and a paper by a net's plain rules, the m of each mark told by choose."""

    def __init__(self, net, choose):
        self.plain = PlainNet(net)
        self.choose = choose
        self.rows = []
        self.paper = []
        self.marks = {}
        self.form_row(self.plain.last())

    def add(self, row, told=None):
        self.rows.append(row)
        self.paper.append(told)
        return len(self.rows) - 1

    def mark_row(self, mark):
        if mark[0] == "letter":
            return self.add(mark)
        if mark not in self.marks:
            u, v = mark[1], mark[2] if mark[0] == "share" else None
            low = 1 if v is None else self.plain.degrees[v]
            m = self.choose(range(low, self.plain.degrees[u]))
            row = self.form_row(self.plain.rule(u, v, m))
            self.paper[row] = (u, m) if v is None else (u, v, m)
            self.marks[mark] = row
        return self.marks[mark]

    def form_row(self, form):
        """A row with this form, which is the last one and no mark's."""
        products = []
        for product, f in form.items():
            factors = [self.mark_row(mark) for mark in product]
            row = self.add(("number", algebra.pair(f)))
            for factor in factors:
                row = self.add(("times", row, factor))
            products.append(row)
        total = self.add(("number", NOUGHT))
        for row in products:
            total = self.add(("plus", total, row))
        return total

    def told(self):
        return (self.plain.net[0], tuple(self.rows)), tuple(self.paper)


class Papers(unittest.TestCase):
    def let_by(self, net, reckoning, paper):
        self.assertIs(shallow_holds(net, reckoning, paper), True)
        self.assertIsNone(plain_shallow_refusal(net, reckoning, paper))
        self.assertEqual(polynomial_of(reckoning), net_poly(net))

    def refused(self, at, net, reckoning, paper):
        with self.assertRaises(NoPaper) as kept:
            shallow_holds(net, reckoning, paper)
        self.assertEqual(kept.exception.at, at)
        self.assertEqual(plain_shallow_refusal(net, reckoning, paper), at)

    def powers_refused(self, at, rows, paper, net=POWERS):
        self.refused(at, net, (net[0], tuple(rows)), tuple(paper))


class LetBy(Papers):
    def test_what_shallow_tells(self):
        chance = Random(121)
        for _ in range(100):
            for net in (some_net(chance, chance.randint(1, 20)), rich_net(chance, chance.randint(3, 20))):
                self.let_by(net, *shallow(net))

    def test_what_shallow_tells_of_told_nets(self):
        chance = Random(122)
        for _ in range(60):
            one = makings.some_reckoning(chance, 8, words=("plus", "less", "times", "times"))
            net = net_of(one, chance.randint(0, 3))
            self.let_by(net, *shallow(net))

    def test_a_paper_of_ones_own(self):
        # Node 3 by 2: over the border of 2, which is node 2, that is node 1, x, and node 2's share in node 3.
        self.let_by(POWERS, (("x",), POWER_ROWS), POWER_PAPER)
        # By 3 it is node 2 times x, and by 1 it is x x times node 1's share in it.
        rows = (("letter", 0), ("times", 0, 0), ("times", 1, 0), ("times", 2, 0))
        self.let_by(POWERS, (("x",), rows), (None, (1, 1), (2, 2), (3, 3)))
        rows = (("letter", 0), ("times", 0, 0), ("times", 0, 0), ("times", 2, 1))
        self.let_by(POWERS, (("x",), rows), (None, (3, 1, 2), None, (3, 1)))
        self.let_by(POWERS, (("x",), rows), (None, (3, 1, 3), None, (3, 1)))
        # Without telling any mark the last form isn't the one told.
        self.powers_refused(4, rows, (None,) * 4)

    def test_other_borders(self):
        chance = Random(123)
        for _ in range(60):
            net = rich_net(chance, chance.randint(4, 12), chance.randint(2, 6))
            for choose in (min, max, chance.choice):
                reckoning, paper = OwnRows(net, choose).told()
                if len(paper) <= 2400:
                    self.let_by(net, reckoning, paper)

    def test_a_mark_told_by_two_rows(self):
        # Node 2 by 1 and by 2; both are then one mark.
        net = (("x",), POWERS[1], (NOUGHT, (None, None, 2)))
        rows = (("letter", 0), ("times", 0, 0), ("times", 1, 0), ("times", 0, 0), ("times", 3, 0))
        paper = (None, (1, 1), (2, 2), None, (2, 1))
        self.let_by(net, (("x",), rows[:3]), paper[:3])
        self.let_by(net, (("x",), rows), paper)
        half = rows + (("plus", 2, 4), ("number", HALF), ("times", 5, 6))
        self.let_by(net, (("x",), half), paper + (None,) * 3)
        self.let_by(net, (("x",), rows + (("less", 2, 4), ("plus", 5, 2))), paper + (None,) * 2)
        twice = rows[:2] + rows[1:2] + (("times", 1, 0), ("times", 2, 0), ("plus", 3, 4), ("less", 5, 4))
        self.let_by(net, (("x",), twice), (None, (1, 1), (1, 1), (2, 2), (2, 2), None, None))

    def test_rows_that_nothing_needs(self):
        more = (("number", (7, 3)), ("times", 0, 0), ("letter", 0), ("plus", 1, 2), ("times", 3, 3), ("times", 2, 2))
        rows = more + tuple(row if len(row) == 2 else (row[0], row[1] + 6, row[2] + 6) for row in POWER_ROWS)
        self.let_by(POWERS, (("x",), rows), (None,) * 6 + POWER_PAPER)
        self.let_by(POWERS, (("x",), rows), (None,) * 5 + ((1, 1),) + POWER_PAPER)

    def test_numbers_and_letters(self):
        for f in (NOUGHT, (-5, 3)):
            for outs in ((), (None, None)):
                net = (("x", "y"), POWERS[1], (f, outs))
                self.let_by(net, (("x", "y"), (("number", f),)), (None,))
                self.refused(1, net, (("x", "y"), (("number", (7, 1)),)), (None,))
                self.refused(1, net, (("x", "y"), (("letter", 0),)), (None,))

    def test_outs_of_degree_1(self):
        nodes = (("letter", 0), ("letter", 1), ("mix", ((HALF, 0), ((-3, 1), 1))), ("mix", ((LESS, 0), ((2, 1), 2))),
                 ("times", 2, 3))
        mixed = (("letter", 0), ("letter", 1), ("number", HALF), ("times", 0, 2), ("number", (3, 1)), ("times", 4, 1),
                 ("less", 3, 5))
        net = (("x", "y"), nodes, (NOUGHT, (2,)))
        self.let_by(net, (("x", "y"), mixed), (None,) * 7)
        self.refused(6, net, (("x", "y"), mixed[:-1]), (None,) * 6)
        # Node 3 is just - 6 y: x falls away.
        net = (("x", "y"), nodes, ((1, 3), (3,)))
        rows = (("letter", 1), ("number", (-6, 1)), ("times", 0, 1), ("number", (1, 3)), ("plus", 3, 2))
        self.let_by(net, (("x", "y"), rows), (None,) * 5)
        # No node of degree 1 is told.
        for at, mark in ((2, (3, 1)), (2, (3, 0)), (0, (1, 1)), (0, (1, 0))):
            self.refused(at, net, (("x", "y"), rows), (None,) * at + (mark,) + (None,) * (4 - at))
        # With both outs the last form has letters and a mark: (x / 2 - 3 y) times - 6 y.
        net = (("x", "y"), nodes, (NOUGHT, (3, 4)))
        rows = mixed + (("number", (-6, 1)), ("times", 7, 1), ("times", 6, 8), ("plus", 8, 9))
        self.let_by(net, (("x", "y"), rows), (None,) * 9 + ((4, 1), None))
        self.refused(11, net, (("x", "y"), rows), (None,) * 11)

    def test_an_out_of_nought_by_meaning(self):
        nodes = (("letter", 0), ("mix", ((ONE, 0),)), ("mix", ((ONE, 0), (LESS, 1))), ("times", 2, 0), ("times", 3, 0))
        net = (("x",), nodes, (ONE, (2,)))
        self.let_by(net, (("x",), (("number", ONE),)), (None,))
        # Of degree 2 it is a mark, whose rule has no product.
        net = (("x",), nodes, (ONE, (2, 3)))
        rows = (("number", NOUGHT), ("number", ONE), ("plus", 0, 1))
        self.let_by(net, (("x",), rows), ((3, 1), None, None))
        self.refused(3, net, (("x",), rows), (None, None, None))
        self.refused(1, net, (("x",), rows), (None, (3, 1), None))
        # Of degree 3 by 2 it is that mark times x, by 1 nought times 1 times x.
        net = (("x",), nodes, (ONE, (None, None, 4)))
        rows = (("number", NOUGHT), ("letter", 0), ("times", 0, 1), ("number", ONE), ("plus", 2, 3))
        self.let_by(net, (("x",), rows), ((3, 1), None, (4, 2), None, None))
        self.let_by(net, (("x",), rows), (None, None, (4, 1), None, None))
        self.refused(2, net, (("x",), rows), (None, None, (4, 2), None, None))
        self.refused(2, net, (("x",), rows), ((3, 1), None, (4, 1), None, None))


class Shares(Papers):
    def test_read_by_degrees(self):
        # x, y, x + y; node 3 is x y, node 4 is 2 of it less x (x + y), node 5 is node 4 times (x + y).
        nodes = (("letter", 0), ("letter", 1), ("mix", ((ONE, 0), (ONE, 1))), ("times", 0, 1), ("times", 0, 2),
                 ("mix", (((2, 1), 3), (LESS, 4))), ("times", 5, 2), ("times", 6, 0))
        letters = ("x", "y")
        # Node 5 by 1: 2 x y less x (x + y), shares of degree 0 being numbers.
        rows = (("letter", 0), ("letter", 1), ("plus", 0, 1), ("less", 1, 0), ("times", 3, 0))
        net = (letters, nodes, (NOUGHT, (None, 5)))
        self.let_by(net, (letters, rows), (None,) * 4 + ((5, 1),))
        # Node 6 by 1: that times x + y, shares of degree 1 being sums of letters; by 2: node 5 times x + y.
        net = (letters, nodes, (NOUGHT, (None, None, 6)))
        both = rows + (("times", 4, 2),)
        self.let_by(net, (letters, both), (None,) * 5 + ((6, 1),))
        self.let_by(net, (letters, both), (None,) * 4 + ((5, 1), (6, 2)))
        self.refused(5, net, (letters, both), (None,) * 4 + ((5, 1), (6, 1)))
        self.refused(5, net, (letters, both), (None,) * 5 + ((6, 2),))
        # Node 7 by 1: node 3's and node 4's shares are of degree 2, each a mark.
        net = (letters, nodes, (NOUGHT, (None, None, None, 7)))
        more = rows[:3] + (("number", (2, 1)), ("times", 2, 0), ("times", 3, 4), ("number", LESS), ("times", 4, 6),
                           ("times", 0, 1), ("times", 8, 5), ("times", 0, 2), ("times", 10, 7), ("plus", 9, 11))
        told = (None,) * 5 + ((7, 3, 2), None, (7, 4, 2), None, None, None, None, (7, 1))
        self.let_by(net, (letters, more), told)
        self.let_by(net, (letters, more), told[:5] + ((7, 3, 3), None, (7, 4, 3)) + told[8:])
        for at in (5, 7):
            self.refused(12, net, (letters, more), told[:at] + (None,) + told[at + 1:])

    def test_plain_nought(self):
        # Node 2 is x y: x's share in it is y, y's is plain nought, and so in all that is made of it.
        nodes = (("letter", 0), ("letter", 1), ("times", 0, 1), ("times", 2, 1), ("mix", ((ONE, 3),)), ("times", 4, 0),
                 ("times", 1, 1), ("times", 6, 1), ("mix", ((ONE, 3), (ONE, 7))))
        letters = ("x", "y")
        net = (letters, nodes, (NOUGHT, ()))
        rows = (("number", NOUGHT),)
        for u in range(len(nodes)):
            for v in range(len(nodes)):
                for m in range(5):
                    self.refused_or_not(net, (letters, rows), ((u, v, m),))
        for u, v in ((3, 1), (4, 1), (5, 1), (7, 0), (5, 6), (5, 7)):
            for m in range(1, 4):
                self.refused(0, net, (letters, rows), ((u, v, m),))
        # Where one part of a mix has a share, it isn't.
        square = (("letter", 1), ("times", 0, 0), ("number", NOUGHT))
        for u, v in ((3, 0), (4, 0), (7, 1), (8, 0), (8, 1)):
            for m in (1, 2):
                self.let_by(net, (letters, square), (None, (u, v, m), None))

    def refused_or_not(self, net, reckoning, paper):
        at = plain_shallow_refusal(net, reckoning, paper)
        if at is None:
            self.let_by(net, reckoning, paper)
        else:
            self.refused(at, net, reckoning, paper)

    def test_nought_by_meaning_but_not_plain(self):
        # Node 3 is x + y less x: x's share in it is 1 less 1, in its products nought, but not plain.
        nodes = (("letter", 0), ("letter", 1), ("mix", ((ONE, 0), (ONE, 1))), ("mix", ((LESS, 0), (ONE, 2))),
                 ("times", 3, 1), ("times", 4, 1), ("times", 5, 0), ("mix", ((ONE, 6),)),
                 ("times", 7, 1))
        letters = ("x", "y")
        net = (letters, nodes, (NOUGHT, (None, None, None, None, 8)))
        look_net(net)
        rows = (("number", NOUGHT),)
        zero = (letters, nodes, (NOUGHT, ()))
        self.refused(1, zero, (letters, rows), ((5, 0, 1),))
        zeros = rows + (("number", NOUGHT),)
        # Degree 2: by 1 and by 2 the rule has no product.
        for m in (1, 2):
            self.let_by(zero, (letters, zeros), ((5, 0, m), None))
        # Degree 3, node 6 less x: by 1 it is 1 less 1 times .., so none; by 2 a share of degree 1, none either; by 3
        # it is the mark of degree 2 times x.
        for m in (1, 2):
            self.let_by(zero, (letters, zeros), ((6, 0, m), None))
            self.let_by(zero, (letters, zeros), ((7, 0, m), None))
        self.refused(0, zero, (letters, zeros), ((6, 0, 3), None))
        rows = (("number", NOUGHT), ("letter", 0), ("times", 0, 1), ("number", NOUGHT))
        self.let_by(zero, (letters, rows), ((5, 0, 1), None, (6, 0, 3), None))
        self.refused(2, zero, (letters, rows), (None, None, (6, 0, 3), None))
        for m in range(1, 5):
            self.let_by(net, *OwnRows(net, lambda told: told[min(m, len(told)) - 1]).told())

    def test_some_nets_with_noughts(self):
        chance = Random(124)
        seen = 0
        while seen < 40:
            net = rich_net(chance, 9, 5)
            plain = PlainNet(net)
            places = range(len(net[1]))
            told = [(u, v) for u in places for v in places if plain.degrees[u] - plain.degrees[v] >= 2]
            for u, v in told:
                seen += plain.nought(u, v)
                for m in range(plain.degrees[v], plain.degrees[u]):
                    self.refused_or_not(net, (net[0], (("number", NOUGHT),)), ((u, v, m),))


class Refused(Papers):
    def test_letters_and_length(self):
        self.refused(0, POWERS, (("y",), POWER_ROWS), POWER_PAPER)
        self.refused(0, POWERS, (("x", "y"), POWER_ROWS), POWER_PAPER)
        two = (("x", "y"),) + POWERS[1:]
        self.let_by(two, (("x", "y"), POWER_ROWS), POWER_PAPER)
        self.refused(0, two, (("y", "x"), POWER_ROWS), POWER_PAPER)
        self.refused(0, two, (("x",), POWER_ROWS), POWER_PAPER)
        for paper in ((), POWER_PAPER[:-1], POWER_PAPER + (None,), (None,) * 99):
            self.powers_refused(0, POWER_ROWS, paper)

    def test_letters_and_length_ahead_of_all_rows(self):
        rows = POWER_ROWS[:2] + (("over", 0, 1),) + POWER_ROWS[3:]
        self.refused(0, POWERS, (("y",), rows), POWER_PAPER)
        self.powers_refused(0, rows, POWER_PAPER[:-1])
        self.powers_refused(2, rows, POWER_PAPER)

    def test_over(self):
        self.powers_refused(5, POWER_ROWS + (("over", 4, 0),), POWER_PAPER + (None,))
        rows = (("number", (2, 1)), ("over", 0, 0)) + POWER_ROWS[:1]
        self.powers_refused(1, rows, (None, None, None))
        # Ahead of its mark, and of what comes behind.
        self.powers_refused(1, rows, (None, (9, 9), None))
        self.powers_refused(1, rows, (None, (1, 1), (9, 9)))

    def test_more_than_six_marks(self):
        rows = (("letter", 0), ("times", 0, 0), ("times", 1, 1), ("times", 1, 2), ("times", 3, 0), ("letter", 0))
        self.powers_refused(4, rows, (None,) * 6)
        self.powers_refused(5, rows[:4] + rows[:1], (None,) * 5)
        # The size goes ahead of the mark, though both are looked at in the same row.
        self.powers_refused(4, rows, (None,) * 4 + ((3, 1), None))
        # Told marks count as one each: six are let by, seven aren't.
        rows = (("letter", 0), ("times", 0, 0), ("times", 1, 1), ("times", 2, 1), ("times", 3, 3), ("times", 4, 0))
        self.powers_refused(5, rows, (None, (1, 1)) + (None,) * 4)
        self.powers_refused(6, rows[:5] + rows[:1], (None, (1, 1)) + (None,) * 4)
        self.powers_refused(4, rows, (None,) * 6)
        # What falls away doesn't count.
        rows = rows[:4] + (("less", 3, 3), ("times", 4, 3), ("times", 5, 3), ("letter", 0))
        self.powers_refused(8, rows, (None,) * 8)

    def many_products(self):
        """A net of 18 squares, rows that tell each of them and make 350 unlike products, the paper, the products' rows."""
        nodes = (("letter", 0), ("letter", 1)) + (("times", 0, 0),) * 18
        net = (("x", "y"), nodes, (ONE, (0,)))
        rows = [("letter", 0), ("letter", 1)] + [("times", 0, 0)] * 18
        paper = (None, None) + tuple((at, 1) for at in range(2, 20))
        made = list(range(20))
        for one in range(20):
            for other in range(one, 20):
                rows.append(("times", one, other))
                made.append(len(rows) - 1)
        for row in made[-120:]:
            rows.append(("times", 19, row))
            made.append(len(rows) - 1)
        return net, rows, paper, made

    def grown(self, rows, parts):
        """The rows with others behind that add up these parts, one by one, by turns added and taken off."""
        rows, total = list(rows), parts[0]
        for at, part in enumerate(parts[1:]):
            rows.append(("less" if at & 1 else "plus", total, part))
            total = len(rows) - 1
        return rows

    def test_more_than_three_hundred_products(self):
        net, rows, paper, made = self.many_products()
        base = len(rows)
        self.assertGreaterEqual(len(made), 302)

        def refused(at, rows, told=()):
            told = paper + (None,) * (len(rows) - len(paper) - len(told)) + told
            self.refused(at, net, (("x", "y"), tuple(rows)), told)
        # Three hundred are let by, by themselves and in further rows; the last form then isn't the one told.
        full = self.grown(rows, made[:300])
        total = len(full) - 1
        self.assertEqual(total, base + 298)
        refused(len(full), full)
        more = full + [("plus", total, made[7]), ("less", total, total), ("times", total + 2, total)]
        refused(len(more), more)
        # One more isn't, be it a product, told of a mark or not, or a number; the size goes ahead of the mark.
        for word in ("plus", "less"):
            refused(total + 1, full + [(word, total, made[300]), ("letter", 0)])
            refused(total + 1, full + [(word, made[300], total), ("letter", 0)])
            refused(total + 1, full + [(word, total, made[300]), ("over", 0, 0)], ((2, 1), (99, 99)))
            refused(total + 2, full + [("number", HALF), (word, total, total + 1), ("letter", 0)])
        # A number and 299 of them are let by.
        less = self.grown(rows, made[:299])
        more = less + [("number", HALF), ("plus", len(less) - 1, len(less))]
        refused(len(more), more)
        refused(len(more), more + [("plus", len(more) - 1, made[299])])
        # Nor is a product of twenty marks by sixteen squares; by fifteen it is.
        squares = [rows.index(("times", at, at), 20) for at in range(20)]
        few = self.grown(rows, made[:20])
        for many in (15, 16):
            both = self.grown(few, squares[:many])
            refused(len(both) + (2 if many == 15 else 0), both + [("times", len(few) - 1, len(both) - 1), ("letter", 0)])

    def test_marks_that_are_not_there(self):
        for mark in ((4, 1), (99, 1), (-1, 1), (-4, 1), (-2, 2), (1, 0), (1, 2), (1, -1), (0, 0), (0, 1), (3, 0), (3, 4),
                     (10 ** 30, 1), (3, 10 ** 30), (3, 1, 1), (3, 1, 4), (3, 1, 0), (3, 1, -1), (3, 2, 3), (3, 3, 4),
                     (1, 3, 2), (3, 4, 2), (4, 1, 2), (3, -1, 2), (-1, 1, 2), (-1, -3, 2), (1, 0, 1), (3, 99, 2),
                     (3, 1, 10 ** 30), (0, 0, 0), (1, 1, 2)):
            for at in range(5):
                if POWER_PAPER[at] != mark:
                    self.powers_refused(at, POWER_ROWS, POWER_PAPER[:at] + (mark,) + POWER_PAPER[at + 1:])

    def test_entries_of_other_lengths(self):
        for entry in ((1,), (3,), (1, 1, 1, 1), (3, 1, 2, 2), (3, 2, 1, 0, 0)):
            for at in range(5):
                with self.assertRaises(NoPaper) as kept:
                    shallow_holds(POWERS, (("x",), POWER_ROWS), POWER_PAPER[:at] + (entry,) + POWER_PAPER[at + 1:])
                self.assertEqual(kept.exception.at, at)

    def test_bounds_of_m(self):
        # Node 3 in all its forms: by 1, 2 and 3 it is let by, and its share of node 0 by 1, 2, 3, of node 1 by 2, 3.
        for u, v, low in ((3, None, 1), (3, 0, 1), (3, 1, 2), (2, None, 1), (2, 0, 1), (1, None, 1)):
            plain = PlainNet(POWERS)
            for m in range(-2, 7):
                net = (("x",), POWERS[1], (NOUGHT, ()))
                told = OwnRows(net, max)
                is_there = low <= m < plain.degrees[u]
                row = told.form_row(plain.rule(u, v, m))
                told.paper[row] = (u, m) if v is None else (u, v, m)
                told.add(("number", NOUGHT))
                reckoning, paper = told.told()
                if is_there:
                    self.let_by(net, reckoning, paper)
                else:
                    self.refused(row, net, reckoning, paper)

    def test_degrees_that_differ_by_less_than_two(self):
        # The share of node 2 in node 3 is x, that of node 3 in itself 1; none of them is told.
        rows = (("letter", 0), ("number", ONE), ("letter", 0))
        for at, mark in ((0, (3, 2, 3)), (0, (3, 2, 2)), (0, (3, 2, 4)), (1, (3, 3, 4)), (1, (3, 3, 3)), (0, (1, 0, 1))):
            net = (("x",), POWERS[1], (NOUGHT, (0,)))
            self.refused(at, net, (("x",), rows), (None,) * at + (mark,) + (None,) * (2 - at))

    def test_another_form_than_the_rule(self):
        for at, mark in ((0, (1, 1)), (1, (2, 1)), (1, (3, 3)), (2, (2, 1)), (2, (2, 2)), (3, (2, 1)), (3, (3, 2)),
                         (4, (3, 1)), (4, (3, 3)), (4, (2, 2)), (4, (3, 1, 2))):
            self.powers_refused(at, POWER_ROWS, POWER_PAPER[:at] + (mark,) + POWER_PAPER[at + 1:])
        # The row is just the rule, or it is refused: with a fraction, a number, another letter.
        two = (("x", "y"),) + POWERS[1:]
        for row in (("plus", 0, 0), ("less", 0, 0), ("times", 0, 1), ("times", 1, 1), ("letter", 0), ("plus", 2, 0)):
            rows = (("letter", 0), ("letter", 1), ("number", NOUGHT), row)
            self.refused(3, two, (("x", "y"), rows), (None, None, None, (1, 1)))
        rows = (("letter", 0), ("times", 0, 0), ("number", (999983, 999979)), ("times", 1, 2))
        self.powers_refused(3, rows, (None, None, None, (1, 1)))

    def test_the_last_form(self):
        self.powers_refused(6, POWER_ROWS + (("plus", 4, 0),), POWER_PAPER + (None,))
        self.powers_refused(6, POWER_ROWS + (("letter", 0),), POWER_PAPER + (None,))
        self.powers_refused(5, POWER_ROWS, POWER_PAPER[:4] + (None,))
        self.powers_refused(4, POWER_ROWS[:4], POWER_PAPER[:4])
        for top in ((ONE, (None, None, None, 3)), (NOUGHT, ()), (NOUGHT, (0, None, None, 3)), (NOUGHT, (None, 1)),
                    (NOUGHT, (None, 1, None, 3)), (NOUGHT, (None, None, None, None))):
            self.powers_refused(5, POWER_ROWS, POWER_PAPER, (("x",), POWERS[1], top))
        self.let_by((("x",), POWERS[1], (NOUGHT, (None, None, None, 3, None))), (("x",), POWER_ROWS), POWER_PAPER)

    def test_same_by_meaning_but_not_by_form(self):
        rows = (("letter", 0), ("times", 0, 0), ("times", 1, 1))
        self.powers_refused(3, rows, (None,) * 3)
        # Two nodes may come to the same, and are two marks all the same.
        nodes = (("letter", 0), ("times", 0, 0), ("times", 0, 0))
        for out, mark, at in ((1, 1, None), (2, 2, None), (1, 2, 2), (2, 1, 2)):
            net = (("x",), nodes, (NOUGHT, (None, out)))
            if at is None:
                self.let_by(net, (("x",), rows[:2]), (None, (mark, 1)))
            else:
                self.refused(at, net, (("x",), rows[:2]), (None, (mark, 1)))

    def test_the_first_of_several(self):
        rows = POWER_ROWS[:3] + (("times", 0, 0),) + POWER_ROWS[4:] + (("over", 0, 0),)
        self.powers_refused(4, rows, POWER_PAPER + (None,))
        self.powers_refused(1, rows, (None, (9, 9)) + POWER_PAPER[2:] + (None,))
        seven = (("letter", 0), ("times", 0, 0), ("times", 1, 1), ("times", 2, 2), ("over", 0, 0))
        self.powers_refused(3, seven, (None, None, None, (7, 7), None))


class Spoilt(Papers):
    def spoilt(self, chance, net, rows, paper):
        """The rows and the paper with something in them exchanged."""
        rows, paper, many = list(rows), list(paper), len(net[1])
        for _ in range(chance.choice((1, 1, 2))):
            at = chance.randrange(len(rows))
            deed = chance.randrange(8)
            told = [mark for mark in paper if mark is not None]
            if deed == 0:
                paper[at] = None
            elif deed == 1:
                paper[at] = tuple(chance.randint(-1, many) for _ in range(chance.choice((1, 2)))) + (chance.randint(0, 6),)
            elif deed == 2:
                paper[at] = chance.choice(told) if told else None
            elif deed == 3 and told:
                mark = chance.choice(told)
                paper[paper.index(mark)] = mark[:-1] + (chance.randint(0, 6),)
            elif deed == 4:
                rows[at] = ("number", algebra.some_fraction(chance, 4))
            elif deed == 5:
                rows[at] = ("letter", chance.randrange(len(net[0])))
            elif at:
                word = chance.choice(makings.WORDS) if deed == 6 else rows[at][0]
                if word in makings.WORDS:
                    rows[at] = (word, chance.randrange(at), chance.randrange(at))
        return (net[0], tuple(rows)), tuple(paper)

    def test_at_the_first_row_by_which_it_is_not(self):
        chance = Random(125)
        good = bad = 0
        for _ in range(40):
            net = rich_net(chance, chance.randint(4, 12), chance.randint(2, 6))
            (letters, rows), paper = chance.choice((shallow(net), OwnRows(net, chance.choice).told()))
            for _ in range(20):
                reckoning, told = self.spoilt(chance, net, rows, paper)
                at = plain_shallow_refusal(net, reckoning, told)
                if at is None:
                    good += 1
                    self.let_by(net, reckoning, told)
                else:
                    bad += 1
                    self.refused(at, net, reckoning, told)
        self.assertGreater(good, 30)
        self.assertGreater(bad, 300)

    def test_what_is_handed_in_stays(self):
        net = rich_net(Random(126))
        reckoning, paper = shallow(net)
        kept = repr((net, reckoning, paper))
        shallow_holds(net, reckoning, paper)
        self.assertEqual(repr((net, reckoning, paper)), kept)
        self.assertIs(shallow_holds(net, reckoning, paper), True)


class InTime(Papers):
    def setUp(self):
        self.began = time.monotonic()

    def tearDown(self):
        self.assertLess(time.monotonic() - self.began, 10)

    def at_of(self, net, rows, paper):
        try:
            return None if shallow_holds(net, (net[0], tuple(rows)), tuple(paper)) else 0
        except NoPaper as refusal:
            return refusal.at

    def grown(self, many, deed):
        """The powers' rows and paper with rows behind, up to so many, each told of its number."""
        rows = list(POWER_ROWS)
        while len(rows) < many:
            rows.append(deed(len(rows)))
        return rows, POWER_PAPER + (None,) * (many - len(POWER_ROWS))

    def test_long_ones(self):
        self.assertEqual(self.at_of(POWERS, *self.grown(2400, lambda at: ("plus", at - 1, at - 1))), 2400)
        # Row 4 is taken off and added by turns: nothing is left of it at odd rows, just it at even ones.
        for many, at in ((2400, 2400), (2399, None)):
            rows, paper = self.grown(many, lambda at: ("less", at - 1, 4) if at & 1 else ("plus", at - 1, 4))
            self.assertEqual(self.at_of(POWERS, rows, paper), at)

    def test_great_fractions(self):
        rows, paper = self.grown(2400, lambda at: (
            ("number", algebra.pair(Fraction(10 ** 29 + at, 10 ** 28 + 7 * at))) if at % 3 == 0
            else ("times", at - 1, at - 3 if at > 12 else 4) if at % 3 == 1 else ("plus", at - 1, 4)))
        self.assertEqual(self.at_of(POWERS, rows, paper), 2400)

    def test_products_without_measure(self):
        rows = (("number", (2, 3)),) + tuple(("times", at, at) for at in range(2299))
        rows += tuple(row if len(row) == 2 else (row[0], row[1] + 2300, row[2] + 2300) for row in POWER_ROWS)
        self.assertIsNone(self.at_of(POWERS, rows, (None,) * 2300 + POWER_PAPER))
        rows = (("letter", 0),) + tuple(("times", at, at) for at in range(2399))
        self.assertEqual(self.at_of(POWERS, rows, (None,) * 2400), 3)

    def test_products_of_great_forms(self):
        # Cubes of x + y + z + a mark + 1/3, multiplied again and again: 210 products from 35 by 35.
        net = (("x", "y", "z"), (("letter", 0), ("times", 0, 0)), (NOUGHT, (None, 1)))
        rows = [("letter", 0), ("letter", 1), ("letter", 2), ("times", 0, 0), ("number", (1, 3)), ("plus", 0, 1),
                ("plus", 5, 2), ("plus", 6, 3), ("plus", 7, 4), ("times", 8, 8), ("times", 9, 8)]
        rows += [("times", 10, 10)] * (2400 - len(rows))
        self.assertEqual(self.at_of(net, rows, (None,) * 3 + ((1, 1),) + (None,) * 2396), 2400)

    def test_many_told_marks(self):
        chance = Random(127)
        told = []
        while len(told) < 8:
            net = rich_net(chance, 20, 6)
            (letters, rows), paper = OwnRows(net, chance.choice).told()
            if 100 < len(rows) <= 2400:
                told.append((net, rows, paper))
        self.began = time.monotonic()
        for net, rows, paper in told:
            self.assertIsNone(self.at_of(net, rows, paper))

    def test_one_mark_told_again_and_again(self):
        net = rich_net(Random(128), 20, 6)
        (letters, rows), paper = shallow(net)
        more = 2400 - len(rows)
        last = max(at for at, mark in enumerate(paper) if mark is not None)
        rows += (rows[last],) * more
        paper += (paper[last],) * more
        self.assertIn(self.at_of(net, rows, paper), (None, 2400))
