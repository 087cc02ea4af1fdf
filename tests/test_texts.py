"""Points 12 to 14: texts read into reckonings."""

import time
import unittest
from random import Random

import plain_texts
from undivide.errors import BadText, NoName, TooMany, UndivideError
from undivide.reckonings import look_reckoning
from undivide.texts import read_reckoning

X = ("letter", 0)
Y = ("letter", 1)


def number(n, d=1):
    return ("number", (n, d))


def text(*rows):
    return "\n".join(rows)


class Reading(unittest.TestCase):
    def told(self, rows, letters, *made):
        self.assertEqual(read_reckoning(text(*rows)), (letters, made))

    def test_letters_alone(self):
        self.told(["letters x", "give x"], ("x",), X)
        self.told(["letters x y", "give y"], ("x", "y"), Y)
        self.told(["letters a bc abcde", "give abcde"], ("a", "bc", "abcde"), ("letter", 2))

    def test_four_signs(self):
        for sign, word in (("+", "plus"), ("-", "less"), ("*", "times"), ("/", "over")):
            self.told(["letters x y", f"a = y {sign} x", "give a"], ("x", "y"), X, Y, (word, 1, 0))

    def test_numbers(self):
        self.told(["letters x", "a = -3/4", "give a"], ("x",), number(-3, 4))
        self.told(["letters x", "a = 999999/999998", "give a"], ("x",), number(999999, 999998))
        self.told(["letters x", "a = -999999", "give a"], ("x",), number(-999999))
        self.told(["letters x", "a = 1 - x", "give a"], ("x",), X, number(1), ("less", 1, 0))
        self.told(["letters x", "a = 2 / 1/3", "give a"], ("x",), number(2), number(1, 3), ("over", 0, 1))
        self.told(["letters x", "a = 5 * 5", "b = a - 5", "give b"], ("x",),
                  number(5), number(5), ("times", 0, 1), number(5), ("less", 2, 3))

    def test_one_thing_makes_no_row(self):
        self.told(["letters x", "a = x", "b = a", "c = b * a", "give c"], ("x",), X, ("times", 0, 0))
        self.told(["letters x", "a = 7", "b = a", "c = b + a", "give c"], ("x",), number(7), ("plus", 0, 0))

    def test_names_set_anew(self):
        self.told(["letters x", "a = x + x", "b = a", "a = a * a", "c = a - b", "give c"], ("x",),
                  X, ("plus", 0, 0), ("times", 1, 1), ("less", 2, 1))
        self.told(["letters x y", "x = x + y", "x = x * x", "give x"], ("x", "y"),
                  X, Y, ("plus", 0, 1), ("times", 2, 2))
        self.told(["letters x y", "x = y", "y = x * y", "give y"], ("x", "y"), Y, ("times", 0, 0))

    def test_names(self):
        self.told(["letters x", "abcdef = x + x", "a12345 = abcdef * x", "parts = a12345", "give parts"], ("x",),
                  X, ("plus", 0, 0), ("times", 1, 0))

    def test_what_is_not_needed_is_left_out(self):
        self.told(["letters x y", "a = x + 1", "b = y * y", "c = b * a", "give b"], ("x", "y"), Y, ("times", 0, 0))
        self.told(["letters x", "a = 1", "b = 2", "give a"], ("x",), number(1))
        self.told(["letters x", "a = x / 0", "give x"], ("x",), X)


class Parts(unittest.TestCase):
    def told(self, rows, letters, *made):
        self.assertEqual(read_reckoning(text(*rows)), (letters, made))

    def test_one_to_three_names(self):
        self.told(["letters x", "part sq a", "b = a * a", "end", "y = sq x", "give y"], ("x",), X, ("times", 0, 0))
        self.told(["letters x y", "part p a b", "c = b - a", "end", "z = p x y", "give z"], ("x", "y"),
                  X, Y, ("less", 1, 0))
        self.told(["letters x", "part p a b c", "d = a / b", "d = d / c", "end", "z = p 1 x 2", "give z"], ("x",),
                  X, number(1), number(2), ("over", 1, 0), ("over", 3, 2))

    def test_numbers_come_ahead_of_the_parts_rows(self):
        self.told(["letters x", "part p a b", "c = 3 * b", "d = c + a", "end", "z = p 1 2", "give z"], ("x",),
                  number(1), number(2), number(3), ("times", 2, 1), ("plus", 3, 0))

    def test_done_twice(self):
        self.told(["letters x", "part p a", "b = a + 1", "end", "y = p x", "y = p y", "give y"], ("x",),
                  X, number(1), ("plus", 0, 1), number(1), ("plus", 2, 3))

    def test_parts_that_do_parts(self):
        self.told(["letters x", "part sq a", "b = a * a", "end", "part four a", "c = sq a", "b = sq c", "end",
                   "y = four x", "z = sq y", "give z"], ("x",),
                  X, ("times", 0, 0), ("times", 1, 1), ("times", 2, 2))

    def test_own_names(self):
        # The part's x is no letter, its names are gone behind its end, and the names around stay as they were.
        self.told(["letters x y", "part p x a", "y = x - a", "a = y", "end", "a = x + x", "z = p y a", "z = z * a",
                   "give z"], ("x", "y"),
                  X, Y, ("plus", 0, 0), ("less", 1, 2), ("times", 3, 2))

    def test_a_name_like_the_parts_word(self):
        self.told(["letters x", "part p p", "p = p + p", "end", "p = p x", "q = p p", "give q"], ("x",),
                  X, ("plus", 0, 0), ("plus", 1, 1))

    def test_comes_to_the_last_lines_name(self):
        self.told(["letters x", "part p a", "b = a + a", "a = b * b", "b = a", "end", "y = p x", "give y"], ("x",),
                  X, ("plus", 0, 0), ("times", 1, 1))
        self.told(["letters x", "part p a", "b = a", "end", "y = p x", "y = y + y", "give y"], ("x",),
                  X, ("plus", 0, 0))

    def test_last_line_in_rounds_done_no_time(self):
        rows = ["letters x", "part p a", "b = a + a", "rounds 0", "{} = b * b", "end", "end", "y = p x", "give y"]
        self.told([row.format("b") for row in rows], ("x",), X, ("plus", 0, 0))
        self.told([row.format("a") for row in rows], ("x",), X)
        with self.assertRaises(NoName) as kept:
            read_reckoning(text(*[row.format("c") for row in rows]))
        self.assertEqual(kept.exception.name, "c")

    def test_deep_parts(self):
        rows = ["letters x", "part p0 a", "a = a + a", "end"]
        for k in range(1, 100):
            rows += [f"part p{k} a", f"a = p{k - 1} a", "end"]
        self.told(rows + ["y = p99 x", "give y"], ("x",), X, ("plus", 0, 0))


class Rounds(unittest.TestCase):
    def told(self, rows, letters, *made):
        self.assertEqual(read_reckoning(text(*rows)), (letters, made))

    def test_none_one_more(self):
        for many in range(10):
            squares = tuple(("times", at, at) for at in range(many))
            self.told(["letters x", f"rounds {many}", "x = x * x", "end", "give x"], ("x",), X, *squares)

    def test_numbers_anew_each_time(self):
        self.told(["letters x", "rounds 2", "x = x + 1", "end", "give x"], ("x",),
                  X, number(1), ("plus", 0, 1), number(1), ("plus", 2, 3))

    def test_within_one_another(self):
        self.told(["letters x", "rounds 2", "rounds 1", "rounds 3", "x = x + x", "end", "end", "x = x * x", "end",
                   "give x"], ("x",), X, ("plus", 0, 0), ("plus", 1, 1), ("plus", 2, 2), ("times", 3, 3),
                  ("plus", 4, 4), ("plus", 5, 5), ("plus", 6, 6), ("times", 7, 7))
        self.told(["letters x", "rounds 3", "rounds 0", "x = no x", "end", "x = x + x", "end", "give x"], ("x",),
                  X, ("plus", 0, 0), ("plus", 1, 1), ("plus", 2, 2))

    def test_three_within_and_three_behind(self):
        three = ["rounds 1", "rounds 1", "rounds 1", "x = x + x", "end", "end", "end"]
        self.told(["letters x"] + three + three + ["give x"], ("x",), X, ("plus", 0, 0), ("plus", 1, 1))

    def test_in_parts(self):
        self.told(["letters x", "part p a", "rounds 1", "rounds 1", "rounds 2", "a = a * a", "end", "end", "end", "end",
                   "rounds 2", "x = p x", "end", "give x"], ("x",),
                  X, ("times", 0, 0), ("times", 1, 1), ("times", 2, 2), ("times", 3, 3))


class Bad(unittest.TestCase):
    def refused(self, at, *rows):
        with self.assertRaises(BadText, msg=repr(rows)) as kept:
            read_reckoning(text(*rows))
        self.assertEqual(kept.exception.at, at, repr(rows))

    def test_first_row(self):
        for row in ("", " ", "letters", "letters ", "Letters x", "letter x", "x", "letters  x", " letters x",
                    "letters x ", "letters x  y", "letters a b c d", "letters x x", "letters x y x", "letters X",
                    "letters x1", "letters abcdef", "letters end", "letters x part", "letters x,y", "letters\tx",
                    "give x", "letters rounds", "letters letters", "letters 1"):
            self.refused(0, row, "give x")

    def test_no_signs(self):
        self.refused(0, "")

    def test_ends_too_early(self):
        self.refused(1, "letters x")
        self.refused(2, "letters x", "a = x")
        self.refused(2, "letters x", "part p a")
        self.refused(3, "letters x", "part p a", "a = a")
        self.refused(4, "letters x", "part p a", "a = a", "end")
        self.refused(2, "letters x", "rounds 1")
        self.refused(4, "letters x", "rounds 1", "a = x", "end")

    def test_behind_the_end(self):
        self.refused(2, "letters x", "give x", "")
        self.refused(2, "letters x", "give x", "give x")
        self.refused(2, "letters x", "give x", "a = x", "give a")

    def test_empty_rows(self):
        self.refused(1, "letters x", "", "give x")
        self.refused(2, "letters x", "a = x", "", "give x")
        self.refused(0, "", "letters x", "give x")

    def test_give(self):
        for row in ("give", "give ", "give x ", "give  x", " give x", "give x x", "give 1", "give X", "give end",
                    "give abcdefg", "give x1_", "give -1", "give = x", "Give x"):
            self.refused(1, "letters x", row)
        self.refused(2, "letters x", "rounds 1", "give x")
        self.refused(3, "letters x", "rounds 1", "a = x", "give a")
        self.refused(3, "letters x", "part p a", "a = a", "give a")

    def test_lines(self):
        for row in ("a", "a =", "a = ", "a = x ", "a  = x", "a =  x", " a = x", "a = x +", "a = + x", "a = x + ",
                    "a = x  + x", "a == x", "a = x ^ x", "a = x ** x", "a = x % x", "a = x + x + x", "a =x", "a= x",
                    "a=x", "= x", "x", "x + x", "1 = x", "A = x", "a_ = x", "abcdefg = x", "end = x", "part = x",
                    "rounds = x", "give = x", "letters = x", "1a = x", "-a = x", "a = X", "a = end", "a = x + part",
                    "a = give x", "a = rounds x", "a = 1 x", "a = p +", "a = p + +", "a = x = x", "a = p x X",
                    "a = p x end", "a = p x y 01", "letters x", "a = (x)", "a = x;", "a = abcdefg", "a\t= x"):
            self.refused(1, "letters x", row, "give x")
            self.refused(2, "letters x", "a = x", row, "give x")
            self.refused(2, "letters x", "part p a", row, "a = a", "end", "give x")
            self.refused(2, "letters x", "rounds 0", row, "a = a", "end", "give x")

    def test_numbers(self):
        for word in ("-0", "4/2", "1/1", "01", "1/02", "1/0", "0/5", "1/", "/2", "-", "--1", "1/-2", "+1", "1.5",
                     "1000000", "-1000000", "1/1000000", "1000000/3", "1/2/3", "0000001", "1" * 100):
            for row in (f"a = {word}", f"a = {word} + x", f"a = x * {word}", f"a = p {word}", f"a = p x {word}"):
                self.refused(1, "letters x", row, "give x")

    def test_parts(self):
        for row in ("part", "part ", "part p", "part p ", "part p a b c d", "part p a a", "part p a b a", "part P a",
                    "part p A", "part p 1", "part 1 a", "part end a", "part p end", "part abcdefg a", "part p abcdefg",
                    "part  p a", "part p  a", "part p a ", "part x a", "part y a", "part p = a", "Part p a",
                    "part part a"):
            self.refused(1, "letters x y", row, "a = a", "end", "give x")

    def test_where_parts_stand(self):
        self.refused(2, "letters x", "a = x", "part p a", "a = a", "end", "give a")
        self.refused(2, "letters x", "part p a", "part q a", "a = a", "end", "end", "give x")
        self.refused(3, "letters x", "part p a", "a = a", "part q a", "a = a", "end", "end", "give x")
        self.refused(2, "letters x", "rounds 1", "part p a", "a = a", "end", "end", "give x")
        self.refused(4, "letters x", "rounds 1", "a = x", "end", "part p a", "a = a", "end", "give x")

    def test_parts_told_twice(self):
        self.refused(4, "letters x", "part p a", "a = a", "end", "part p b", "b = b", "end", "give x")
        self.refused(7, "letters x", "part p a", "a = a", "end", "part q p", "b = p", "end", "part p c", "c = c",
                     "end", "give x")

    def test_a_line_at_least(self):
        self.refused(2, "letters x", "part p a", "end", "give x")
        self.refused(2, "letters x", "rounds 1", "end", "give x")
        self.refused(3, "letters x", "rounds 1", "rounds 1", "end", "a = x", "end", "give x")
        self.refused(3, "letters x", "part p a", "rounds 1", "end", "a = a", "end", "give x")
        self.refused(4, "letters x", "a = x", "rounds 1", "rounds 1", "end", "give x")
        self.refused(5, "letters x", "part p a", "a = a", "end", "part q a", "end", "give x")

    def test_rounds(self):
        for row in ("rounds", "rounds ", "rounds 10", "rounds -1", "rounds a", "rounds 1 1", "rounds  1", "rounds 1 ",
                    "rounds 1/2", "rounds +", "Rounds 1", "rounds = 1", "rounds \u0663"):
            self.refused(1, "letters x", row, "a = x", "end", "give x")
            self.refused(2, "letters x", "part p a", row, "a = a", "end", "end", "give x")

    def test_a_fourth_round(self):
        deep = ["rounds 1", "rounds 0", "rounds 1", "rounds 1", "a = x", "end", "end", "end", "end"]
        self.refused(4, "letters x", *deep, "give x")
        self.refused(5, "letters x", "part p x", *deep, "end", "give x")
        self.refused(6, "letters x", "rounds 1", "rounds 1", "rounds 1", "a = x", "a = x", "rounds 1", "a = x", "end")

    def test_ends(self):
        self.refused(1, "letters x", "end", "give x")
        self.refused(2, "letters x", "a = x", "end", "give x")
        self.refused(4, "letters x", "rounds 1", "a = x", "end", "end", "give x")
        self.refused(4, "letters x", "part p a", "a = a", "end", "end", "give x")
        for row in ("end ", " end", "end a", "END"):
            self.refused(3, "letters x", "rounds 1", "a = x", row, "give x")

    def test_of_two_faults_the_first(self):
        self.refused(1, "letters x", "a = -0", "part p", "give")
        self.refused(1, "letters x", "part x a", "a = 01", "end", "give x")

    def test_ahead_of_what_the_lines_do(self):
        self.refused(2, "letters x", "a = none", "give")
        self.refused(3, "letters x", "a = no none", "give a", "")


class Names(unittest.TestCase):
    def refused(self, name, *rows):
        with self.assertRaises(NoName, msg=repr(rows)) as kept:
            read_reckoning(text(*rows))
        self.assertEqual(kept.exception.name, name, repr(rows))

    def test_things(self):
        self.refused("b", "letters x", "a = b", "give a")
        self.refused("b", "letters x", "a = b + c", "give a")
        self.refused("c", "letters x", "a = x + c", "give a")
        self.refused("c", "letters x", "a = 1 + c", "give a")
        self.refused("a", "letters x", "a = a", "give a")
        self.refused("a", "letters x", "a = x + a", "give a")
        self.refused("b", "letters x", "a = b", "b = x", "give a")
        self.refused("b", "letters x", "part p a", "a = a", "end", "a = p b", "give a")
        self.refused("c", "letters x", "part p a b", "a = a", "end", "a = p x c", "give a")

    def test_given_name(self):
        self.refused("a", "letters x", "give a")
        self.refused("a", "letters x", "rounds 0", "a = x", "end", "give a")
        self.refused("b", "letters x", "part p a", "b = a", "end", "c = p x", "give b")
        self.refused("p", "letters x", "part p a", "b = a", "end", "c = p x", "give p")
        self.refused("b", "letters x", "a = b", "give none")

    def test_parts(self):
        self.refused("p", "letters x", "a = p x", "give a")
        self.refused("x", "letters x", "a = x x", "give a")
        self.refused("p", "letters x", "p = x", "a = p x", "give a")
        self.refused("p", "letters x", "part p a", "b = a", "end", "a = p x x", "give a")
        self.refused("p", "letters x", "part p a b", "b = a", "end", "a = p x", "give a")
        self.refused("p", "letters x", "part p a b c", "b = a", "end", "a = p x x x x", "give a")

    def test_the_part_ahead_of_things(self):
        self.refused("p", "letters x", "a = p none", "give a")
        self.refused("p", "letters x", "part p a", "b = a", "end", "a = p none none", "give a")
        self.refused("none", "letters x", "part p a b", "b = a", "end", "a = p none other", "give a")

    def test_a_parts_word_alone_is_a_name(self):
        self.refused("p", "letters x", "part p a", "b = a", "end", "a = p", "give a")

    def test_parts_told_ahead_alone(self):
        self.refused("p", "letters x", "part p a", "b = p a", "end", "y = p x", "give y")
        self.refused("q", "letters x", "part p a", "b = q a", "end", "part q a", "b = a", "end", "y = p x", "give y")
        self.refused("q", "letters x", "part p a", "b = q a", "end", "part q a", "b = p a", "end", "y = q x", "give y")

    def test_in_a_part_its_own_are_known_alone(self):
        self.refused("x", "letters x", "part p a", "b = a + x", "end", "y = p x", "give y")
        self.refused("y", "letters x", "part p a", "b = a + y", "end", "y = x", "z = p x", "give z")
        self.refused("b", "letters x", "part p a", "c = b + a", "b = c", "end", "z = p x", "z = p x", "give z")

    def test_a_parts_last_name(self):
        self.refused("b", "letters x", "part p a", "rounds 0", "b = a", "end", "end", "y = p x", "give y")
        self.refused("c", "letters x", "part p a", "b = a", "rounds 2", "rounds 0", "c = b", "end", "end", "end",
                     "c = x", "y = p c", "give none")

    def test_what_is_not_done_is_not_asked(self):
        rows = ["letters x", "part p a", "b = none + q", "b = nopart b", "end", "rounds 0", "a = none", "b = p x x",
                "end", "give x"]
        self.assertEqual(read_reckoning(text(*rows)), (("x",), (X,)))

    def test_lines_behind_the_given_name_are_done(self):
        self.refused("none", "letters x", "a = x", "b = none", "give a")


class Many(unittest.TestCase):
    def refused(self, *rows):
        with self.assertRaises(TooMany) as kept:
            read_reckoning(text(*rows))
        self.assertEqual(kept.exception.at, 200)

    def rounds(self, *numbers, line):
        return [f"rounds {k}" for k in numbers] + [line] + ["end"] * len(numbers)

    def test_rows(self):
        # With the letter's row 1 + 4 * 7 * 7 = 197.
        most = ["letters x"] + self.rounds(4, 7, 7, line="x = x + x")
        more = ["x = x + x"]
        self.assertEqual(len(read_reckoning(text(*most, *(more * 3), "give x"))[1]), 200)
        self.refused(*most, *(more * 4), "give x")

    def test_numbers_and_letters_count(self):
        # Three letters' rows and 2 * 7 * 7 * 2 of the lines are 199.
        most = ["letters x y z"] + self.rounds(2, 7, 7, line="x = x * 2")
        self.assertEqual(len(read_reckoning(text(*most, "a = 5", "give x"))[1]), 1 + 196)
        self.refused(*most, "a = 5", "a = 5", "give x")
        self.refused(*most, "a = 5 + x", "give x")
        self.assertEqual(len(read_reckoning(text(*most, "a = y + z", "give x"))[1]), 1 + 196)
        self.refused(*most, "a = 5 + 6", "give x")

    def test_rows_that_are_not_needed_count(self):
        self.refused("letters x", *self.rounds(4, 7, 8, line="a = x + x"), "give x")

    def test_lines(self):
        # 9 * 9 * 9 + 3 * 9 * 9 + 3 * 9 + 1 = 1000.
        most = (self.rounds(9, 9, 9, line="a = x") + self.rounds(3, 9, 9, line="a = x")
                + self.rounds(3, 9, line="a = x"))
        self.assertEqual(read_reckoning(text("letters x", *most, "a = x", "give a")), (("x",), (X,)))
        self.refused("letters x", *most, "a = x", "a = x", "give a")

    def test_a_parts_lines_count_and_the_one_that_calls_it(self):
        part = ["letters x", "part p a", "b = a", "end"]
        # 2 * 500.
        most = self.rounds(5, 9, 9, line="x = p x") + self.rounds(9, 9, line="x = p x") + self.rounds(2, 7, line="x = p x")
        self.assertEqual(read_reckoning(text(*part, *most, "give x")), (("x",), (X,)))
        self.refused(*part, *most, "a = x", "give x")
        # A call as the thousandth line: its part's first one is too many.
        self.refused(*part, *most[:-5], *self.rounds(2, 6, line="x = p x"), "x = p x", "a = x", "x = p x", "give x")

    def test_lines_in_rounds_done_no_time_do_not_count(self):
        idle = self.rounds(9, 9, 0, line="a = x")
        self.assertEqual(read_reckoning(text("letters x", *(idle * 30), "give x")), (("x",), (X,)))

    def test_what_is_met_first(self):
        rows = ["letters x"] + self.rounds(4, 7, 8, line="x = x + x")
        self.refused(*rows, "a = none", "give none")
        with self.assertRaises(NoName) as kept:
            read_reckoning(text("letters x", "a = none", *rows[1:], "give none"))
        self.assertEqual(kept.exception.name, "none")
        # A line's names are looked at ahead of its rows; a line that is one too many ahead of its names.
        full = ["letters x"] + self.rounds(4, 7, 7, line="x = x + x") + ["x = x + x"] * 3
        with self.assertRaises(NoName):
            read_reckoning(text(*full, "a = 1 + none", "give x"))
        thousand = (self.rounds(9, 9, 9, line="a = x") + self.rounds(3, 9, 9, line="a = x")
                    + self.rounds(3, 9, line="a = x") + ["a = x"])
        self.refused("letters x", *thousand, "a = none", "give x")
        with self.assertRaises(NoName):
            read_reckoning(text("letters x", *thousand, "give none"))

    def test_in_time(self):
        began = time.monotonic()
        parts = []
        for k in range(1, 9):
            parts += [f"part p{k} a", "rounds 9", "rounds 9", "rounds 9"]
            parts += ["a = a"] if k == 1 else [f"a = p{k - 1} a"] * 9
            parts += ["end"] * 4
        self.refused("letters x", *parts, "y = p8 x", "give y")
        idle = self.rounds(9, 9, 0, line="a = a") * 50
        read_reckoning(text("letters x", "part p a", *idle, "a = a", "end",
                            *self.rounds(8, 8, 7, line="x = p x"), "give x"))
        self.assertLess(time.monotonic() - began, 5)


class Maker:
    """Makes texts, most of them good, by chance."""

    def __init__(self, seed):
        self.chance = Random(seed)

    def some(self, *things):
        return self.chance.choice(things)

    def word(self):
        return self.chance.choice(["a", "a", "a", "1", "-2/3"] * 6 + ["x", "x", "b", "b", "y", "c", "p"])

    def line(self):
        name = self.some("x", "y", "a", "b", "c", "p")
        form = self.chance.randint(0, 9)
        if form < 2:
            return f"{name} = {self.word()}"
        if form < 8:
            return f"{name} = {self.word()} {self.some('+', '-', '*', '/')} {self.word()}"
        words = [self.word() for _ in range(self.some(1, 1, 2, 3))]
        return f"{name} = {self.some('p', 'q', 's')} {' '.join(words)}"

    def body(self, deep=0):
        rows = []
        for _ in range(self.some(1, 2, 3)):
            if deep < 3 and self.chance.random() < 0.4:
                rows += [f"rounds {self.some(0, 1, 2, 5, 9)}"] + self.body(deep + 1) + ["end"]
            else:
                rows.append(self.line())
        return rows

    def text(self):
        rows = [self.some("letters x y", "letters x", "letters x y c")]
        for word in ("p", "q", "s"):
            if self.chance.random() < 0.7:
                rows += [f"part {word} " + self.some("a", "a b", "x y a", "b a")] + self.body() + ["end"]
        return rows + ["a = x", "b = 2 * x"] + self.body() + [f"give {self.some('x', 'a', 'b', 'c')}"]

    def spoilt(self):
        rows = self.text()
        for _ in range(self.some(0, 1, 1, 2)):
            at = self.chance.randrange(len(rows))
            deed = self.chance.randint(0, 5)
            if deed == 0:
                del rows[at]
            elif deed == 1:
                rows.insert(at, self.some("end", "rounds 2", "part t a", "give x", "", "a = x", rows[at]))
            elif deed == 2:
                rows[at] = rows[at].replace(self.some(" ", "=", "a", "x"), self.some("", "  ", "9", "end", "-0"), 1)
            elif deed == 3:
                rows = rows[:at + 1]
            elif deed == 4:
                rows[at] = rows[at] + self.some(" ", " x", "x", " 1", "0", "/", " +")
            else:
                other = self.chance.randrange(len(rows))
                rows[at], rows[other] = rows[other], rows[at]
            if not rows:
                rows = [""]
        return rows


class AnotherWay(unittest.TestCase):
    def field(self, refusal):
        return refusal.name if isinstance(refusal, NoName) else refusal.at

    def test_the_same_answers(self):
        maker = Maker(16)
        met = {}
        for _ in range(6000):
            one = text(*maker.spoilt())
            try:
                told = plain_texts.plain_read(one)
                met["told"] = met.get("told", 0) + 1
            except plain_texts.Stopped as stopped:
                name, field = stopped.args
                met[name] = met.get(name, 0) + 1
                with self.assertRaises(UndivideError, msg=one) as kept:
                    read_reckoning(one)
                self.assertEqual((type(kept.exception).__name__, self.field(kept.exception)), (name, field), one)
                continue
            self.assertEqual(read_reckoning(one), told, one)
            self.assertIs(look_reckoning(told), True)
        for kind in ("told", "BadText", "NoName", "TooMany"):
            self.assertGreater(met[kind], 50, met)
