"""Points 29 and 30: webs looked at, what they stand for, and webs of reckonings."""

import time
import unittest
from random import Random

import algebra
import makings
from plain_nets import of
from plain_webs import HALF, LESS, ONE, line, plain_web, some_web
from undivide.errors import BadLetters, BadWay, NotWhole, TooMany
from undivide.quotients import polynomial_of
from undivide.texts import read_reckoning
from undivide.undivided import undivided
from undivide.webs import look_web, web_of, web_poly, width

WAYS = ((0, 1, (ONE, 0)), (0, 2, (HALF, None)), (1, 2, (LESS, 1)), (1, 4, ((-7, 3), None)), (2, 3, (ONE, None)))
# Nothing that stands here is a way, a fraction, or an entry.
OTHERS = (None, "", "x", 0, 1, -1, (), (0,), (0, 0), (0, 1), (None, None), ("x", "y", "z"), (0, 1, 2), (ONE, ONE))


class Look(unittest.TestCase):
    def refused(self, at, ways, dots=5, letters=("x", "y")):
        with self.assertRaises(BadWay, msg=repr((dots, ways))) as kept:
            look_web((letters, dots, ways))
        self.assertEqual(kept.exception.at, at, repr((dots, ways)))

    def way_refused(self, *ways):
        """Each of these is refused alone, behind good ones, and with others behind it."""
        for way in ways:
            self.refused(0, (way,))
            self.refused(5, WAYS + (way,))
            self.refused(5, WAYS + (way, (3, 4, (ONE, 0))))
            self.refused(5, WAYS + (way, None))

    def test_good_ones(self):
        self.assertIs(look_web((("x", "y"), 5, WAYS)), True)
        for at in range(5):
            self.assertIs(look_web((("x", "y"), 5, WAYS[:at])), True)
            self.assertIs(look_web((("x", "y"), 5, WAYS[:at] + WAYS[at + 1:])), True)
        for dots in (2, 3, 90, 10 ** 30):
            self.assertIs(look_web((("x",), dots, ())), True)
            self.assertIs(look_web((("x",), dots, ((0, dots - 1, (ONE, None)),))), True)
        self.assertIs(look_web((("a", "b", "c"), 3, ((0, 1, ((10 ** 40, 7), 2)), (1, 2, (LESS, 0))))), True)

    def test_letters_ahead_of_all(self):
        for letters in ((), ("x", "x"), ("x", "y", "z", "u"), ("X",), ("end",), ("abcdef",), ("",), ("x", "give")):
            for dots in (5, 1, None):
                for ways in (WAYS, None, (None,)):
                    with self.assertRaises(BadLetters):
                        look_web((letters, dots, ways))

    def test_dots_ahead_of_the_ways(self):
        for dots in (1, 0, -1, -5, None, "", "5", (), (5,), (5, 1), True):
            for ways in (WAYS, (), None, (None,), ((0, 9, (ONE, 0)),)):
                self.refused(-1, ways, dots)

    def test_ways_are_no_tuple(self):
        for ways in (None, "", "ways", 0, 7, -1):
            self.refused(0, ways)

    def test_ways_of_other_kinds(self):
        self.way_refused(*OTHERS)

    def test_another_length(self):
        self.way_refused((3,), (3, 4), (3, 4, (ONE, 0), 0), (3, 4, ONE, 0), (3, 4, 1, 1, 0))

    def test_dots_of_a_way(self):
        self.way_refused((3, 3, (ONE, 0)), (4, 3, (ONE, 0)), (4, 4, (ONE, 0)), (3, 5, (ONE, 0)), (5, 6, (ONE, 0)),
                         (3, 99, (ONE, 0)), (-1, 4, (ONE, 0)), (-2, -1, (ONE, 0)), (3, -1, (ONE, 0)), (True, 4, (ONE, 0)))
        for thing in OTHERS:
            self.way_refused((3, thing, (ONE, 0)))
            if thing not in (0, 1):
                self.way_refused((thing, 4, (ONE, 0)))
        self.refused(0, ((0, 2, (ONE, 0)),), 2)
        self.refused(0, ((1, 2, (ONE, 0)),), 2)

    def test_entries(self):
        self.way_refused(*((3, 4, thing) for thing in OTHERS))
        self.way_refused((3, 4, (ONE,)), (3, 4, (ONE, 0, 0)), (3, 4, ONE), (3, 4, 0), (3, 4, None))

    def test_fractions_of_entries(self):
        for f in ((0, 1), (0, 2), (2, 2), (2, 4), (-3, 9), (1, 0), (0, 0), (1, -2), (-1, -1), 1, 0, None, "1", (1,),
                  (1, 1, 1), ("1", 1), (1, "1"), (None, 1), (1, None), (True, 1), (1, True), ((1, 1), 1), ()):
            self.way_refused((3, 4, (f, 0)), (3, 4, (f, None)))

    def test_letters_of_entries(self):
        for letter in (2, -1, 99, "", "x", "0", (), (0,), ONE, True, False):
            self.way_refused((3, 4, (ONE, letter)))
        self.refused(0, ((0, 1, (ONE, 1)),), 2, ("x",))
        self.assertIs(look_web((("x", "y"), 2, ((0, 1, (ONE, 1)),))), True)

    def test_order(self):
        for at in range(5):
            # The same from and to twice, with whatever entry; and one that goes back.
            for entry in (WAYS[at][2], (ONE, None), ((-999, 1), 1), ((999, 1), 0)):
                self.refused(at + 1, WAYS[:at + 1] + (WAYS[at][:2] + (entry,),) + WAYS[at + 1:])
            for behind in range(at):
                self.refused(at + 1, WAYS[:at + 1] + (WAYS[behind],))
                self.refused(at + 1, WAYS[:at + 1] + (WAYS[behind], None))
        for at in range(4):
            turned = WAYS[:at] + (WAYS[at + 1], WAYS[at]) + WAYS[at + 2:]
            self.refused(at + 1, turned)

    def test_the_first_of_several(self):
        self.refused(1, (WAYS[1], WAYS[0], None))
        self.refused(0, (None, WAYS[1], WAYS[0]))
        self.refused(2, WAYS[:2] + ((0, 3, (ONE, 7)),) + WAYS[:1])
        # A way that is refused for its form is none that others stand behind.
        self.refused(2, WAYS[:2] + (WAYS[0],) + WAYS[2:])


class Poly(unittest.TestCase):
    def stands_for(self, web, *terms):
        self.assertIs(look_web(web), True)
        self.assertEqual(web_poly(web), of(*terms))

    def test_by_hand(self):
        self.stands_for((("x", "y"), 5, WAYS), ((1, 0), "-7/3"))
        self.stands_for((("x", "y"), 4, WAYS[:3] + WAYS[4:]), ((0, 0), "1/2"), ((1, 1), -1))
        self.stands_for((("x",), 2, ((0, 1, ((5, 3), 0)),)), ((1,), "5/3"))
        self.stands_for((("x",), 2, ((0, 1, ((5, 3), None)),)), ((0,), "5/3"))

    def test_no_ways(self):
        for dots in (2, 3, 90):
            self.stands_for((("x", "y"), dots, ()))

    def test_ways_that_lead_nowhere(self):
        # To dot 1 and no further; from dot 1, which none reaches; both, but no walk.
        for ways in (((0, 1, (ONE, 0)),), ((1, 3, (ONE, 0)),), ((0, 1, (ONE, 0)), (2, 3, (ONE, 0))),
                     ((0, 1, (ONE, 0)), (1, 2, (ONE, None)))):
            self.stands_for((("x",), 4, ways))
        more = ((0, 1, (ONE, 0)), (0, 3, (HALF, None)), (2, 3, (ONE, 0)))
        self.stands_for((("x",), 4, more), ((0,), "1/2"))

    def test_walks_that_add_up_to_nought(self):
        ways = ((0, 1, (ONE, 0)), (0, 2, (LESS, 0)), (1, 3, (HALF, None)), (2, 3, (HALF, None)))
        self.stands_for((("x",), 4, ways))
        self.stands_for((("x",), 5, ways + ((3, 4, (ONE, 0)),)))
        more = ((0, 1, (ONE, 0)), (0, 2, (LESS, 0)), (0, 4, (ONE, None)), (1, 3, (ONE, 0)), (2, 3, (ONE, 0)),
                (3, 4, (ONE, 0)))
        self.stands_for((("x",), 5, more), ((0,), 1))

    def test_by_all_walks(self):
        chance = Random(131)
        for _ in range(150):
            web = some_web(chance, chance.randint(2, 8), chance.choice((0.2, 0.5, 0.8, 1)))
            self.assertIs(look_web(web), True)
            self.assertEqual(web_poly(web), plain_web(web))

    def test_lines(self):
        self.stands_for(line(90, (ONE, 0)), ((89,), 1))
        self.stands_for(line(90, (LESS, None)), ((0,), -1))
        self.stands_for(line(90, (HALF, 1), ("x", "y")), ((0, 89), algebra.Fraction(1, 2 ** 89)))
        self.stands_for(line(89, ((-999999, 999998), 0)), ((88,), algebra.Fraction(999999, 999998) ** 88))

    def test_ninety_dots(self):
        chance = Random(132)
        began = time.monotonic()
        # Two ways from each dot, with both of which the last but one is reached, as the numbers of Fibonacci.
        ways = [(at, at + k, (ONE, None)) for at in range(90) for k in (1, 2) if at + k < 90]
        self.stands_for((("x",), 90, tuple(ways)), ((0,), 2880067194370816120))
        # All ways, each one 1: to the last dot go 2 ** 88 walks; each one x: (x + 1) ** 88 x.
        ways = [(start, end) for start in range(90) for end in range(start + 1, 90)]
        self.stands_for((("x",), 90, tuple(way + ((ONE, None),) for way in ways)), ((0,), 2 ** 88))
        choose = 1
        terms = []
        for k in range(89):
            terms.append(((k + 1,), choose))
            choose = choose * (88 - k) // (k + 1)
        self.stands_for((("x",), 90, tuple(way + ((ONE, 0),) for way in ways)), *terms)
        for _ in range(5):
            web_poly(some_web(chance, 90, 0.03))
        self.assertLess(time.monotonic() - began, 10)

    def test_what_is_handed_in_stays(self):
        web = some_web(Random(133), 6)
        kept = repr(web)
        self.assertEqual(web_poly(web), web_poly(web))
        look_web(web)
        self.assertEqual(repr(web), kept)


class Width(unittest.TestCase):
    def test_each_kind(self):
        self.assertEqual(width((("x",), (("number", (5, 3)),))), 1)
        self.assertEqual(width((("x",), (("number", (0, 1)),))), 1)
        self.assertEqual(width((("x", "y"), (("letter", 1),))), 1)
        for word, told in (("plus", 2), ("less", 3), ("times", 3)):
            self.assertEqual(width((("x",), (("letter", 0), (word, 0, 0)))), told)
        rows = (("letter", 0), ("number", (2, 1)), ("times", 0, 1), ("plus", 2, 0), ("less", 3, 2), ("times", 4, 4))
        for many, told in ((3, 3), (4, 4), (5, 8), (6, 17)):
            self.assertEqual(width((("x",), rows[:many])), told)

    def test_rows_that_are_not_needed(self):
        rows = (("letter", 0), ("times", 0, 0), ("times", 1, 1), ("number", (3, 1)), ("plus", 3, 0))
        self.assertEqual(width((("x",), rows)), 2)

    def test_each_row_the_one_ahead_twice(self):
        self.assertEqual(width(makings.doubled("plus")), 2 ** 23)
        self.assertEqual(width(makings.doubled("less")), 2 ** 24 - 1)
        self.assertEqual(width(makings.doubled("times")), 2 ** 24 - 1)

    def test_some(self):
        def plain(rows, at):
            word, *parts = rows[at]
            if word in ("number", "letter"):
                return 1
            return sum(plain(rows, part) for part in parts) + (word != "plus")
        chance = Random(134)
        for _ in range(100):
            one = makings.some_reckoning(chance, chance.randint(3, 12), words=("plus", "less", "times"))
            self.assertEqual(width(one), plain(one[1], len(one[1]) - 1))

    def test_quotients(self):
        for rows, at in (((("letter", 0), ("over", 0, 0)), 1), ((("letter", 0), ("over", 0, 0), ("letter", 0)), 1)):
            with self.assertRaises(NotWhole) as kept:
                width((("x",), rows))
            self.assertEqual(kept.exception.at, at)


class WebOf(unittest.TestCase):
    def made(self, reckoning, most=60):
        """The web that is told, looked at in all that holds of every one."""
        web = web_of(reckoning, most)
        self.assertIs(look_web(web), True)
        self.assertEqual(web[0], reckoning[0])
        self.assertLessEqual(web[1], width(reckoning) + 2)
        self.assertEqual(web_poly(web), polynomial_of(reckoning))
        if web[1] <= 9:
            self.assertEqual(plain_web(web), polynomial_of(reckoning))
        self.assertEqual(web_of(reckoning, most), web)
        return web

    def refused(self, reckoning, *most, **named):
        with self.assertRaises(TooMany) as kept:
            web_of(reckoning, *most, **named)
        self.assertEqual(kept.exception.at, len(reckoning[1]) - 1)

    def test_some(self):
        chance = Random(135)
        many = 0
        while many < 200:
            one = makings.some_reckoning(chance, chance.randint(2, 12), words=("plus", "less", "times"))
            if width(one) <= 58:
                many += 1
                self.made(one)
            elif width(one) < 3000:
                self.refused(one)

    def test_numbers_and_letters(self):
        for f in ((0, 1), ONE, (-5, 3)):
            self.made((("x",), (("number", f),)))
            self.made((("x", "y"), (("letter", 0), ("number", f))))
        self.made((("x",), (("letter", 0),)))
        self.made((("x", "y"), (("number", (3, 1)), ("letter", 1))))

    def test_nought(self):
        for word in ("plus", "less", "times"):
            for parts in ((0, 1), (1, 0), (0, 0), (1, 1)):
                rows = (("number", (0, 1)), ("letter", 0), (word,) + parts)
                self.made((("x",), rows))
                self.made((("x",), rows + (("times", 2, 1), ("plus", 3, 2), ("less", 4, 1))))
        self.assertEqual(web_poly(self.made((("x",), (("letter", 0), ("less", 0, 0))))), ())
        self.assertEqual(web_poly(self.made((("x",), (("letter", 0), ("less", 0, 0), ("times", 1, 1))))), ())

    def test_each_word(self):
        one = read_reckoning("letters x y z\na = x + 2\nb = a * y\nc = b - z\nd = c - x\ne = d * c\nf = e + 1/3\ngive f")
        self.made(one)
        # What is taken off is taken off as a whole, and twice taken off it is added.
        self.made(read_reckoning("letters x y\na = x + y\nb = x - a\nc = a - b\nd = b - c\ne = d * d\ngive e"))
        self.made(read_reckoning("letters x y\na = x * y\nb = 3 - a\nc = b * b\nd = x - c\ngive d"))

    def test_rows_that_are_not_needed(self):
        rows = (("letter", 0), ("times", 0, 0), ("times", 1, 1), ("times", 2, 2), ("times", 3, 3), ("times", 4, 4),
                ("number", (3, 1)), ("plus", 6, 0))
        self.assertGreater(width((("x",), rows[:6])), 60)
        self.made((("x",), rows), 4)

    def test_just_enough_and_one_fewer(self):
        chance = Random(136)
        for _ in range(60):
            one = makings.some_reckoning(chance, chance.randint(2, 8), words=("plus", "less", "times"))
            wide = width(one) + 2
            if wide <= 200:
                self.made(one, wide)
                self.assertEqual(web_of(one, most=wide), web_of(one, wide))
                for most in (wide - 1, wide - 2, 1, 0):
                    self.refused(one, most)
                    self.refused(one, most=most)

    def test_most_left_out(self):
        # A letter added to itself again and again: 58 of them are just enough.
        for many, is_told in ((58, True), (59, False)):
            one = (("x",), (("letter", 0),) + tuple(("plus", at, 0) for at in range(many - 1)))
            self.assertEqual(width(one), many)
            if is_told:
                self.assertEqual(web_of(one), web_of(one, 60))
                self.made(one)
            else:
                self.refused(one)
                self.refused(one, 60)
                self.made(one, 61)
                self.made(one, 90)

    def test_each_row_the_one_ahead_twice(self):
        began = time.monotonic()
        for word in ("plus", "less", "times"):
            self.refused(makings.doubled(word))
            self.refused(makings.doubled(word), 90)
            self.made(makings.doubled(word, 5), 90)
        self.assertLess(time.monotonic() - began, 5)

    def test_not_whole(self):
        for rows, at in (((("letter", 0), ("over", 0, 0)), 1), ((("letter", 0), ("over", 0, 0), ("letter", 0)), 1),
                         ((("letter", 0), ("plus", 0, 0), ("over", 1, 0), ("over", 2, 0)), 2)):
            # Ahead of what is too wide, needed or not.
            for most in (60, 1, 0):
                with self.assertRaises(NotWhole) as kept:
                    web_of((("x",), rows), most)
                self.assertEqual(kept.exception.at, at)

    def test_what_undivided_told(self):
        one = read_reckoning("letters x\na = x * x\nb = a - 1\nc = x - 1\nd = b / c\ngive d")
        new, paper = undivided(one, ((0, 1),), 1)
        self.assertEqual(web_poly(self.made(new)), polynomial_of(one))
