"""Points 19 and 20: papers let by and refused."""

import time
import unittest
from random import Random

import algebra
import makings
from plain_papers import plain_refusal, plain_sum
from undivide.checker import holds
from undivide.errors import NoOver, NoPaper
from undivide.quotients import good_point, polynomial_of
from undivide.texts import read_reckoning
from undivide.undivided import undivided

# x x x at x 2: row 1 is x x, row 2 x x x.
CUBE = (("x",), (("letter", 0), ("times", 0, 0), ("times", 1, 0)))
AT_2 = ((2, 1),)
# By its own hand: x - 2, its square, x x's marks 4 (x - 2) and (x - 2) (x - 2).
SQUARE_ROWS = (("letter", 0), ("number", (2, 1)), ("less", 0, 1), ("number", (4, 1)), ("times", 2, 3), ("times", 2, 2))
SQUARE_PAPER = (None, None, None, None, (1, 1), (1, 2))
# The square itself is then 4 and both marks, added.
SUM_ROWS = SQUARE_ROWS + (("plus", 3, 4), ("plus", 6, 5))
SUM_PAPER = SQUARE_PAPER + (None, None)
SQUARE = (("x",), CUBE[1][:2])


class Papers(unittest.TestCase):
    def let_by(self, reckoning, point, most, new, paper):
        self.assertIs(holds(reckoning, point, most, new, paper), True)
        self.assertIsNone(plain_refusal(reckoning, point, most, new, paper))
        self.assertEqual(polynomial_of(new), plain_sum(reckoning, point, most))

    def refused(self, at, reckoning, point, most, new, paper):
        with self.assertRaises(NoPaper, msg=f"{new} {paper}") as kept:
            holds(reckoning, point, most, new, paper)
        self.assertEqual(kept.exception.at, at)
        self.assertEqual(plain_refusal(reckoning, point, most, new, paper), at)

    def square_refused(self, at, rows, paper, most=2, point=AT_2):
        self.refused(at, SQUARE, point, most, (("x",), tuple(rows)), tuple(paper))


class LetBy(Papers):
    def test_what_undivided_tells(self):
        chance = Random(71)
        for one, point in makings.good_pairs(chance, 80):
            most = chance.randint(0, 8)
            new, paper = undivided(one, point, most)
            self.assertIs(holds(one, point, most, new, paper), True)

    def test_what_undivided_tells_of_polynomials(self):
        chance = Random(72)
        for _ in range(40):
            one, told = makings.with_quotients(chance)
            for point in (good_point(one), makings.some_point(chance, one[0], 99)):
                if makings.runs(one, point):
                    for most in (0, 3, 8):
                        self.assertIs(holds(one, point, most, *undivided(one, point, most)), True)

    def test_points_of_all_kinds(self):
        one = read_reckoning("letters x y\na = x + 2\nb = y / a\nc = b * x\nd = c - b\ngive d")
        for point in (((0, 1), (0, 1)), ((-3, 1), (5, 1)), ((-7, 9), (999, 998)), ((1, 1), (0, 1))):
            for most in range(9):
                self.let_by(one, point, most, *undivided(one, point, most))

    def test_a_paper_of_ones_own(self):
        self.let_by(SQUARE, AT_2, 2, (("x",), SUM_ROWS), SUM_PAPER)
        # Without telling any mark the last form isn't the one told.
        self.square_refused(8, SUM_ROWS, (None,) * 8)

    def test_another_new_reckoning_with_the_same_forms(self):
        # (x - 2) (x - 2) in other words: x x less 4 x, and 4 added.
        rows = (("letter", 0), ("times", 0, 0), ("number", (4, 1)), ("times", 2, 0), ("less", 1, 3), ("plus", 4, 2),
                ("number", (8, 1)), ("less", 3, 6), ("plus", 5, 2), ("plus", 8, 7))
        self.let_by(SQUARE, AT_2, 2, (("x",), rows), (None, None, None, None, None, (1, 2), None, (1, 1), None, None))

    def test_a_mark_told_by_two_rows(self):
        rows = SQUARE_ROWS + (("times", 3, 2), ("times", 2, 2), ("plus", 6, 3), ("plus", 8, 7))
        paper = SQUARE_PAPER + ((1, 1), (1, 2), None, None)
        self.let_by(SQUARE, AT_2, 2, (("x",), rows), paper)
        half = SQUARE_ROWS + (("times", 3, 2), ("plus", 6, 4), ("number", (1, 2)), ("times", 7, 8), ("plus", 9, 3),
                              ("plus", 10, 5))
        self.let_by(SQUARE, AT_2, 2, (("x",), half), SQUARE_PAPER + ((1, 1), None, None, None, None, None))

    def test_rows_that_nothing_rests_on(self):
        rows = (("number", (7, 3)), ("times", 0, 0), ("letter", 0), ("plus", 1, 2)) + tuple(
            row if len(row) == 2 else (row[0], row[1] + 4, row[2] + 4) for row in SUM_ROWS)
        self.let_by(SQUARE, AT_2, 2, (("x",), rows), (None,) * 4 + SUM_PAPER)

    def test_numbers_and_letters(self):
        for f in ((0, 1), (-5, 3)):
            number = (("x",), (("letter", 0), ("number", f)))
            for most in (0, 1, 8):
                self.let_by(number, AT_2, most, (("x",), (("number", f),)), (None,))
                self.refused(1, number, AT_2, most, (("x",), (("number", (7, 1)),)), (None,))
        letter = (("x",), (("letter", 0),))
        self.let_by(letter, AT_2, 1, (("x",), (("letter", 0),)), (None,))
        self.let_by(letter, AT_2, 0, (("x",), (("number", (2, 1)),)), (None,))
        self.refused(1, letter, AT_2, 0, (("x",), (("letter", 0),)), (None,))
        self.refused(1, letter, AT_2, 1, (("x",), (("number", (2, 1)),)), (None,))

    def test_the_last_row_tells_a_mark(self):
        one = (("x",), (("letter", 0), ("times", 0, 0)))
        self.let_by(one, ((0, 1),), 2, (("x",), (("letter", 0), ("times", 0, 0))), (None, (1, 2)))
        self.refused(2, one, ((0, 1),), 2, (("x",), (("letter", 0), ("times", 0, 0))), (None, None))


class Refused(Papers):
    def test_letters_and_length(self):
        self.refused(0, SQUARE, AT_2, 2, (("y",), SUM_ROWS), SUM_PAPER)
        self.refused(0, SQUARE, AT_2, 2, (("x", "y"), SUM_ROWS), SUM_PAPER)
        two = (("x", "y"), SQUARE[1])
        self.let_by(two, AT_2 + ((0, 1),), 2, (("x", "y"), SUM_ROWS), SUM_PAPER)
        self.refused(0, two, AT_2 + ((0, 1),), 2, (("y", "x"), SUM_ROWS), SUM_PAPER)
        self.refused(0, two, AT_2 + ((0, 1),), 2, (("x",), SUM_ROWS), SUM_PAPER)
        for paper in ((), SUM_PAPER[:-1], SUM_PAPER + (None,), (None,) * 99):
            self.square_refused(0, SUM_ROWS, paper)

    def test_letters_and_length_ahead_of_all_rows(self):
        rows = SUM_ROWS[:2] + (("over", 0, 1),) + SUM_ROWS[3:]
        self.refused(0, SQUARE, AT_2, 2, (("y",), rows), SUM_PAPER)
        self.square_refused(0, rows, SUM_PAPER[:-1])
        self.square_refused(2, rows, SUM_PAPER)

    def test_over(self):
        self.square_refused(8, SUM_ROWS + (("over", 7, 1),), SUM_PAPER + (None,))
        self.square_refused(2, SUM_ROWS[:2] + (("over", 0, 1),) + SUM_ROWS[3:], SUM_PAPER)
        # Needed or not, a number over a number, and with a mark or none.
        rows = (("letter", 0), ("number", (2, 1)), ("over", 1, 1), ("less", 0, 1)) + (("number", (4, 1)),)
        self.square_refused(2, rows, (None,) * 5)
        self.square_refused(2, rows, (None, None, (1, 1), None, None))

    def test_more_than_four_marks(self):
        rows = (("letter", 0), ("times", 0, 0), ("times", 1, 1), ("times", 2, 0), ("letter", 0))
        self.square_refused(3, rows, (None,) * 5)
        self.square_refused(5, rows[:3] + (("letter", 0), ("letter", 0)), (None,) * 5)
        # Nor does it help to have less in another part of a sum.
        for word in ("plus", "less"):
            for parts in ((2, 3), (3, 2)):
                sums = rows[:3] + (("number", (5, 1)), (word,) + parts)
                self.square_refused(5, sums + (("times", 4, 0), ("letter", 0)), (None,) * 7)
                self.square_refused(5, sums + (("times", 0, 4), ("letter", 0)), (None,) * 7)
        # What falls away doesn't count.
        rows = rows[:3] + (("less", 2, 2), ("times", 3, 0), ("times", 4, 2), ("letter", 0))
        self.square_refused(7, rows, (None,) * 7)
        # Letters' marks and others count alike.
        rows = SQUARE_ROWS + (("times", 4, 5), ("times", 6, 0), ("times", 7, 0), ("times", 8, 0), ("letter", 0))
        self.square_refused(9, rows, SQUARE_PAPER + (None,) * 5)
        self.square_refused(11, rows[:9] + rows[:1] * 2, SQUARE_PAPER + (None,) * 5)

    def test_told_marks_count_as_one(self):
        # (1, 2) is told of a product of two, so that its square has two marks, not four.
        rows = SQUARE_ROWS + (("times", 5, 5), ("times", 6, 6), ("times", 7, 5), ("letter", 0))
        self.square_refused(8, rows, SQUARE_PAPER + (None,) * 4)
        self.square_refused(6 + 1, SQUARE_ROWS[:5] + rows[5:], SQUARE_PAPER[:5] + (None,) * 5)

    def many_marks(self):
        """A reckoning of powers of x at 1, up to 8, with what undivided tells, and the rows of its marks."""
        rows = (("letter", 0),) + tuple(("times", at, 0) for at in range(20))
        one = (("x",), rows)
        new, paper = undivided(one, ((1, 1),), 8)
        return one, new[1], paper, [at for at, mark in enumerate(paper) if mark is not None]

    def test_more_than_eighty_products(self):
        one, rows, paper, marks = self.many_marks()
        self.assertGreater(len(marks), 90)
        base = len(rows)
        total = marks[0]
        for mark in marks[1:80]:
            rows += (("plus", total, mark),)
            total = len(rows) - 1
        paper += (None,) * (len(rows) - base)
        # Eighty are let by, by themselves and in further rows; the last form then isn't the one told.
        self.refused(len(rows), one, ((1, 1),), 8, (("x",), rows), paper)
        more = rows + (("times", total, marks[0]), ("less", total, total), ("times", len(rows), marks[3]))
        self.refused(len(more), one, ((1, 1),), 8, (("x",), more), paper + (None,) * 3)
        # One more isn't, be it a mark or a number, told or not.
        for word in ("plus", "less"):
            more = rows + ((word, total, marks[80]), ("letter", 0))
            self.refused(len(rows), one, ((1, 1),), 8, (("x",), more), paper + (None,) * 2)
            self.refused(len(rows), one, ((1, 1),), 8, (("x",), more), paper + ((2, 2), None))
        more = rows + (("number", (1, 1)), ("plus", total, len(rows)), ("letter", 0))
        self.refused(len(rows) + 1, one, ((1, 1),), 8, (("x",), more), paper + (None,) * 3)
        # Nor is a product of nine by nine.
        nine = marks[0]
        for mark in marks[1:9]:
            rows += (("plus", nine, mark),)
            nine = len(rows) - 1
        other = marks[10]
        for mark in marks[11:19]:
            rows += (("plus", other, mark),)
            other = len(rows) - 1
        more = rows + (("times", nine, other), ("letter", 0))
        paper += (None,) * (len(more) - len(paper))
        self.refused(len(rows), one, ((1, 1),), 8, (("x",), more), paper)

    def test_marks_that_are_not_there(self):
        for mark in ((2, 1), (99, 1), (-1, 1), (-1, 0), (-2, 2), (1, 0), (1, 3), (1, -1), (1, -2), (0, 0), (10 ** 30, 1),
                     (1, 10 ** 30)):
            for at in range(8):
                paper = SUM_PAPER[:at] + (mark,) + SUM_PAPER[at + 1:]
                self.square_refused(at, SUM_ROWS, paper)
        self.refused(0, SQUARE, AT_2, 0, (("x",), (("number", (4, 1)),)), ((1, 1),))

    def test_marks_of_letters_rows(self):
        # x - 2 is just the rule of x's mark, which may not be told all the same.
        self.square_refused(2, SUM_ROWS, (None, None, (0, 1)) + SUM_PAPER[3:])
        self.square_refused(0, SUM_ROWS, ((0, 1),) + SUM_PAPER[1:])
        letter = (("x",), (("letter", 0),))
        self.refused(0, letter, ((0, 1),), 1, (("x",), (("letter", 0),)), ((0, 1),))

    def test_marks_that_are_plain_nought(self):
        one = (("x",), (("letter", 0), ("number", (3, 1)), ("times", 0, 0), ("less", 0, 0), ("over", 0, 0)))
        rows = (("number", (0, 1)), ("number", (1, 1)))
        self.let_by(one, AT_2, 3, (("x",), rows), (None, None))
        for mark in ((1, 1), (1, 3), (2, 3), (0, 2), (3, 1), (3, 2), (4, 1), (4, 3)):
            # The row's form has no product either, but such marks are never told.
            self.refused(0, one, AT_2, 3, (("x",), rows), (mark, None))

    def test_another_form_than_the_rule(self):
        for at, mark in ((0, (1, 1)), (1, (1, 2)), (2, (1, 1)), (4, (1, 2)), (5, (1, 1)), (6, (1, 1)), (7, (1, 2))):
            self.square_refused(at, SUM_ROWS, SUM_PAPER[:at] + (mark,) + SUM_PAPER[at + 1:])
        for f in ((3, 1), (-4, 1), (4, 3), (0, 1)):
            self.square_refused(4, SUM_ROWS[:3] + (("number", f),) + SUM_ROWS[4:], SUM_PAPER)
        self.square_refused(4, SUM_ROWS, SUM_PAPER, 2, ((3, 1),))

    def test_the_last_form(self):
        self.square_refused(9, SUM_ROWS + (("plus", 7, 2),), SUM_PAPER + (None,))
        self.square_refused(9, SUM_ROWS + (("number", (4, 1)),), SUM_PAPER + (None,))
        self.square_refused(7, SUM_ROWS[:7], SUM_PAPER[:7])
        self.square_refused(8, SUM_ROWS[:7] + (("less", 6, 5),), SUM_PAPER)
        # With another most other marks are asked for.
        self.square_refused(5, SUM_ROWS, SUM_PAPER, 1)
        self.let_by(SQUARE, AT_2, 1, (("x",), SUM_ROWS[:5] + (("plus", 3, 4),)), SUM_PAPER[:5] + (None,))
        self.let_by(SQUARE, AT_2, 3, (("x",), SUM_ROWS), SUM_PAPER)

    def test_same_by_meaning_but_not_by_form(self):
        # x x comes to x x, yet its form isn't made of the marks.
        self.square_refused(2, (("letter", 0), ("times", 0, 0)), (None, None))

    def test_the_first_of_several(self):
        rows = SUM_ROWS[:3] + (("number", (5, 1)),) + SUM_ROWS[4:] + (("over", 0, 0),)
        self.square_refused(4, rows, SUM_PAPER + (None,))
        self.square_refused(1, rows, (None, (9, 9)) + SUM_PAPER[2:] + (None,))
        self.square_refused(3, (("letter", 0), ("times", 0, 0), ("times", 1, 1), ("times", 2, 2), ("over", 0, 0)),
                            (None, None, None, (7, 7), None))

    def test_over_nought_first(self):
        one = (("x",), (("letter", 0), ("number", (1, 1)), ("over", 1, 0), ("letter", 0)))
        for new, paper in (((("y",), (("letter", 0),)), ()), ((("x",), (("letter", 0),)), (None,)),
                           ((("x",), (("letter", 0), ("over", 0, 0))), ((9, 9), (9, 9)))):
            with self.assertRaises(NoOver) as kept:
                holds(one, ((0, 1),), 2, new, paper)
            self.assertEqual(kept.exception.at, 2)


class Spoilt(Papers):
    def spoilt(self, chance, letters, rows, paper, old):
        """The rows and the paper with something in them exchanged."""
        rows, paper = list(rows), list(paper)
        for _ in range(chance.choice((1, 1, 2))):
            at = chance.randrange(len(rows))
            deed = chance.randrange(7)
            if deed == 0:
                paper[at] = None
            elif deed == 1:
                paper[at] = (chance.randint(-1, len(old[1])), chance.randint(-1, 5))
            elif deed == 2:
                told = [mark for mark in paper if mark is not None]
                paper[at] = chance.choice(told) if told else None
            elif deed == 3:
                rows[at] = ("number", algebra.some_fraction(chance, 4))
            elif deed == 4:
                rows[at] = ("letter", chance.randrange(len(letters)))
            elif at:
                word = chance.choice(makings.WORDS) if deed == 5 else rows[at][0]
                if word in makings.WORDS:
                    rows[at] = (word, chance.randrange(at), chance.randrange(at))
        return tuple(rows), tuple(paper)

    def test_at_the_first_row_by_which_it_is_not(self):
        chance = Random(73)
        good = bad = 0
        for one, point in makings.good_pairs(chance, 40, most_rows=8):
            most = chance.randint(0, 4)
            (letters, rows), paper = undivided(one, point, most)
            for _ in range(20):
                new_rows, new_paper = self.spoilt(chance, letters, rows, paper, one)
                at = plain_refusal(one, point, most, (letters, new_rows), new_paper)
                if at is None:
                    good += 1
                    self.let_by(one, point, most, (letters, new_rows), new_paper)
                else:
                    bad += 1
                    self.refused(at, one, point, most, (letters, new_rows), new_paper)
        self.assertGreater(good, 30)
        self.assertGreater(bad, 300)


class InTime(Papers):
    def setUp(self):
        self.began = time.monotonic()

    def tearDown(self):
        self.assertLess(time.monotonic() - self.began, 10)

    def grown(self, many, deed):
        """The sum's rows and paper with rows behind, up to so many, each told of its number."""
        rows = list(SUM_ROWS)
        while len(rows) < many:
            rows.append(deed(len(rows)))
        return (("x",), tuple(rows)), SUM_PAPER + (None,) * (many - len(SUM_ROWS))

    def test_long_ones(self):
        new, paper = self.grown(2399, lambda at: ("plus", at - 1, at - 1))
        self.assertEqual(self.at_of(new, paper), 2399)
        # Row 7 is taken off and added by turns: nothing is left of it at even rows, just it at odd ones.
        for many, at in ((2399, 2399), (2400, None)):
            new, paper = self.grown(many, lambda at: ("plus", at - 1, 7) if at & 1 else ("less", at - 1, 7))
            self.assertEqual(self.at_of(new, paper), at)

    def at_of(self, new, paper):
        try:
            return None if holds(SQUARE, AT_2, 2, new, paper) else 0
        except NoPaper as refusal:
            return refusal.at

    def test_great_fractions(self):
        new, paper = self.grown(2400, lambda at: (
            ("number", algebra.pair(algebra.Fraction(10 ** 29 + at, 10 ** 28 + 7 * at))) if at % 3 == 0
            else ("times", at - 1, at - 3 if at > 12 else 7) if at % 3 == 1 else ("plus", at - 1, 7)))
        self.assertEqual(self.at_of(new, paper), 2400)

    def test_products_without_measure(self):
        # Numbers squared again and again, on which nothing rests, and letters, which are refused.
        rows = (("number", (2, 3)),) + tuple(("times", at, at) for at in range(2299))
        new = rows + tuple(row if len(row) == 2 else (row[0], row[1] + 2300, row[2] + 2300) for row in SUM_ROWS)
        self.assertIsNone(self.at_of((("x",), new), (None,) * 2300 + SUM_PAPER))
        rows = (("letter", 0),) + tuple(("times", at, at) for at in range(2399))
        self.assertEqual(self.at_of((("x",), rows), (None,) * 2400), 3)

    def test_whole_ones_of_many_marks(self):
        rows = [("letter", 0), ("letter", 1), ("letter", 2), ("number", (1, 2)), ("plus", 0, 3)]
        for at in range(1, 20):
            rows.append((("times", "over", "plus")[at % 3], at + 3, at))
        one, point = (("x", "y", "z"), tuple(rows)), ((1, 2), (2, 3), (3, 5))
        (letters, new), paper = undivided(one, point, 8)
        marks = [at for at, mark in enumerate(paper) if mark is not None]
        new = list(new)
        total = marks[0]
        for mark in marks[1:80]:
            new.append(("plus", total, mark))
            total = len(new) - 1
        whole = total
        while len(new) < 2400:
            new.append(("plus", total, whole))
            total = len(new) - 1
        with self.assertRaises(NoPaper) as kept:
            holds(one, point, 8, (letters, tuple(new)), paper + (None,) * (2400 - len(paper)))
        self.assertEqual(kept.exception.at, 2400)
