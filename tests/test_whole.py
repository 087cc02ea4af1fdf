"""Point 3: from a text to each form and back, all of them come to the one polynomial."""

import time
import unittest
from random import Random

import algebra
import makings
from plain_nets import of
from plain_webs import plain_table, plain_web, table_at
from undivide.alike import failing, parted
from undivide.back import reckoning_of_web, web_of_table
from undivide.checker import holds
from undivide.errors import NoOver, NotPolynomial, TooMany
from undivide.nets import look_net, net_poly
from undivide.netted import net_of
from undivide.polys import degree
from undivide.quotients import good_point, polynomial_of
from undivide.reckonings import depth, is_whole, look_reckoning, pruned
from undivide.running import run
from undivide.shallow import depth_told, rows_told, shallow
from undivide.shallowpapers import shallow_holds
from undivide.shown import show_reckoning
from undivide.tables import signed_sum, table_of
from undivide.texts import read_reckoning
from undivide.undivided import undivided
from undivide.webs import look_web, web_of, web_poly, width

# Texts with what they come to; with quotients and without, with parts and rounds, in one to three letters.
TEXTS = (
    ("letters x\ngive x", ((1,), 1)),
    ("letters x\na = 5/3\ngive a", ((0,), "5/3")),
    ("letters x\na = x - x\ngive a",),
    ("letters x\na = x * x\nb = a - 1\nc = x - 1\nd = b / c\ngive d", ((0,), 1), ((1,), 1)),
    ("letters x y\na = x * x\nb = y * y\nc = a - b\nd = x - y\ne = c / d\ngive e", ((1, 0), 1), ((0, 1), 1)),
    ("letters x y\na = x + y\nb = a * a\nc = b + 3\ngive c", ((2, 0), 1), ((1, 1), 2), ((0, 2), 1), ((0, 0), 3)),
    ("letters x y z\na = x * y\nb = a * z\nc = b / 2\ngive c", ((1, 1, 1), "1/2")),
    ("letters x y\npart half a b\nc = a + b\nd = c / 2\nend\ne = half x y\nf = half e x\ngive f",
     ((1, 0), "3/4"), ((0, 1), "1/4")),
    ("letters x\ny = 1\nrounds 3\ny = y * x\ny = y + 1\nend\ngive y", ((3,), 1), ((2,), 1), ((1,), 1), ((0,), 1)),
    ("letters x y\na = x / y\nb = a * y\nc = y / b\nd = x * c\ne = d - x\ngive e", ((0, 1), 1), ((1, 0), -1)),
    ("letters x y\na = 1 / x\nb = 1 / y\nc = a + b\nd = 1 / c\ne = x * y\nf = e / d\ngive f", ((1, 0), 1), ((0, 1), 1)),
)


class Whole(unittest.TestCase):
    def whole_ones(self, one, poly):
        """The forms of a whole reckoning that comes to a polynomial; told are the reckonings made of them."""
        made = []
        most = max(0, degree(poly))
        net = net_of(one, most)
        self.assertIs(look_net(net), True)
        self.assertEqual(net_poly(net), poly)
        if len(pruned(one)[1]) <= 8 and most <= 3:
            flat, paper = shallow(net)
            self.assertIs(shallow_holds(net, flat, paper), True)
            self.assertLessEqual(depth(flat), depth_told(net))
            self.assertLessEqual(len(flat[1]), rows_told(net))
            made.append(flat)
        if width(one) + 2 <= 60:
            made += self.webs(one, poly)
        else:
            self.assertRaises(TooMany, web_of, one)
        return made

    def webs(self, one, poly):
        """The web of a whole reckoning, its table, and the reckonings that they are led back to."""
        web = web_of(one)
        self.assertIs(look_web(web), True)
        self.assertEqual(web_poly(web), poly)
        if web[1] <= 9:
            self.assertEqual(plain_web(web), poly)
        made = [reckoning_of_web(web)]
        table = table_of(web)
        point = makings.some_point(Random(191), one[0], 9)
        self.assertEqual(table_at(table, point), algebra.at_point(algebra.terms_of(poly), point))
        if len(table[1]) <= 6:
            self.assertEqual(signed_sum(table), poly)
        if len(table[1]) <= 4:
            self.assertEqual(plain_table(table), poly)
            back = web_of_table(table)
            self.assertIs(look_web(back), True)
            self.assertEqual(web_poly(back), poly)
            made.append(reckoning_of_web(back))
        return made

    def goes_round(self, one, poly):
        """All forms of a reckoning that comes to a polynomial."""
        most = max(0, degree(poly))
        point = good_point(one)
        new, paper = undivided(one, point, most)
        self.assertIs(holds(one, point, most, new, paper), True)
        made = [new] + self.whole_ones(new, poly)
        if is_whole(one):
            made += self.whole_ones(one, poly)
        for other in made:
            self.assertIs(look_reckoning(other), True)
            self.assertTrue(is_whole(other))
            self.assertEqual(polynomial_of(other), poly)
            self.assertEqual(parted(one, other), ("alike", poly))
            self.assertEqual(parted(other, one), ("alike", poly))
            self.assertEqual(failing(other, new, 2), (2 ** len(one[0]),) * 2)
            if len(other[1]) <= 190:
                again = read_reckoning(show_reckoning(other))
                self.assertEqual(polynomial_of(again), poly)
        return made

    def test_texts(self):
        for text, *terms in TEXTS:
            one = read_reckoning(text)
            self.assertEqual(polynomial_of(one), of(*terms), text)
            self.goes_round(one, of(*terms))

    def test_with_quotients(self):
        chance = Random(192)
        for _ in range(60):
            one, told = makings.with_quotients(chance, chance.randint(6, 14), chance.choice((6, 12)))
            if degree(told) <= 8:
                self.goes_round(read_reckoning(show_reckoning(one)), told)

    def test_without_quotients(self):
        chance = Random(193)
        for _ in range(80):
            one = makings.some_reckoning(chance, chance.randint(2, 9), 8, ("plus", "less", "times"))
            self.goes_round(read_reckoning(show_reckoning(one)), polynomial_of(one))

    def test_where_the_first_one_stops(self):
        one = read_reckoning(TEXTS[4][0])
        point = ((7, 2), (7, 2))
        self.assertRaises(NoOver, run, one, point)
        for other in self.goes_round(one, polynomial_of(one)):
            self.assertEqual(run(other, point)[-1], (7, 1))

    def test_what_comes_to_no_polynomial(self):
        one = read_reckoning("letters x\na = 1 / x\ngive a")
        self.assertIsNone(polynomial_of(one))
        new, paper = undivided(one, ((1, 1),), 3)
        self.assertIs(holds(one, ((1, 1),), 3, new, paper), True)
        with self.assertRaises(NotPolynomial) as kept:
            parted(new, one)
        self.assertEqual(kept.exception.which, 1)

    def test_what_is_handed_in_stays(self):
        one = read_reckoning(TEXTS[5][0])
        net = net_of(one, 2)
        web = web_of(one)
        table = table_of(web_of(read_reckoning(TEXTS[0][0])))
        kept = repr((one, net, web, table))
        for deed, things in ((shallow, (net,)), (depth_told, (net,)), (rows_told, (net,)), (web_poly, (web,)),
                             (table_of, (web,)), (reckoning_of_web, (web,)), (web_of, (one,)), (parted, (one, one)),
                             (failing, (one, one, 4)), (web_of_table, (table,)), (signed_sum, (table,))):
            self.assertEqual(deed(*things), deed(*things))
            self.assertEqual(repr((one, net, web, table)), kept)

    def test_in_time(self):
        began = time.monotonic()
        one = (("x", "y", "z"), (("letter", 0), ("letter", 1), ("letter", 2), ("number", (999983, 999979)), ("plus", 0, 3),
                                 ("times", 4, 1), ("less", 5, 2), ("times", 6, 5)))
        self.goes_round(one, polynomial_of(one))
        self.assertLess(time.monotonic() - began, 10)
