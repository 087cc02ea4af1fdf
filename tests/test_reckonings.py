"""Points 6, 7 and 9: reckonings looked at, pruned, measured and weighed."""

import time
import unittest

from undivide.errors import BadLetters, BadRow
from undivide.reckonings import depth, is_whole, look_reckoning, products, pruned, weights

ALL_WORDS = (("x", "yy"), (
    ("letter", 0), ("number", (-3, 4)), ("plus", 0, 1), ("letter", 1), ("less", 2, 0), ("times", 4, 4),
    ("over", 3, 5),
))


def doubled(word, many=60):
    """A reckoning of rows each made of the one ahead twice."""
    return (("x",), (("letter", 0),) + tuple((word, at, at) for at in range(many - 1)))


class Letters(unittest.TestCase):
    def test_good_ones(self):
        for letters in (("a",), ("abcde",), ("x", "y"), ("z", "a", "zz"), ("ends", "gives", "parts")):
            self.assertIs(look_reckoning((letters, (("letter", 0),))), True)

    def test_bad_ones(self):
        for letters in ((), ("a", "b", "c", "d"), ("x", "x"), ("x", "y", "x"), ("",), ("x", ""), ("abcdef",),
                        ("X",), ("aB",), ("a1",), ("1",), ("a_b",), ("a b",), (" a",), ("a\n",), ("\u00e4",),
                        ("part",), ("end",), ("give",), ("rounds",), ("letters",), ("x", "end"), ("x", "y", "part")):
            for rows in ((("letter", 0),), (), (("none",),)):
                with self.assertRaises(BadLetters, msg=repr(letters)):
                    look_reckoning((letters, rows))


class Rows(unittest.TestCase):
    def refused(self, rows, at, letters=("x", "y")):
        with self.assertRaises(BadRow, msg=repr(rows)) as kept:
            look_reckoning((letters, rows))
        self.assertEqual(kept.exception.at, at, repr(rows))

    def test_good_ones(self):
        self.assertIs(look_reckoning(ALL_WORDS), True)
        for f in ((0, 1), (1, 1), (-1, 1), (7, 10 ** 40), (-10 ** 40, 7)):
            self.assertIs(look_reckoning((("x",), (("number", f),))), True)
        for word in ("plus", "less", "times", "over"):
            self.assertIs(look_reckoning(doubled(word)), True)
        self.assertIs(look_reckoning((("x", "y", "z"), (("letter", 2), ("letter", 0), ("over", 1, 0)))), True)

    def test_no_row(self):
        self.refused((), 0)

    def test_forms(self):
        good = (("letter", 0), ("number", (1, 2)))
        for row in (
                (), ("minus", 0, 1), ("Plus", 0, 1), ("", 0, 1), (0, 0, 1), ((0, 1), 0, 1), ("plus",), ("number",),
                ("letter",), ("letter", 0, 0), ("number", (1, 2), 0), ("number", 1, 2), ("plus", 0), ("plus", 0, 1, 1),
                ("letter", 2), ("letter", -1), ("letter", "x"), ("letter", (0, 1)), ("letter", True),
                ("number", 3), ("number", "3"), ("number", (2, 4)), ("number", (1, 0)), ("number", (1, -2)),
                ("number", (0, 2)), ("number", (-4, 2)), ("number", (0, 0)), ("number", (True, 1)),
                ("plus", 2, 0), ("plus", 0, 2), ("plus", 3, 0), ("plus", 0, 3), ("plus", -1, 0), ("plus", 0, -1),
                ("times", "0", 0), ("times", 0, "x"), ("over", (0, 1), 0), ("over", 0, (0, 1)), ("less", True, 0),
                ("less", 0, False)):
            self.refused(good + (row,), 2)
            self.refused(good + (row, ("plus", 0, 1)), 2)

    def test_first_row_has_none_ahead(self):
        self.refused((("plus", 0, 0),), 0)
        self.refused((("letter", 1),), 0, ("x",))

    def test_of_two_faults_the_first(self):
        self.refused((("letter", 0), ("plus", 0, 1), ("letter", 9)), 1)
        self.refused((("letter", 9), ("plus", 0, 1)), 0)


class Pruning(unittest.TestCase):
    def test_needed_rows_alone(self):
        rows = (("letter", 0), ("number", (5, 1)), ("letter", 1), ("times", 0, 1), ("plus", 0, 2), ("over", 2, 3),
                ("less", 4, 0), ("times", 5, 5))
        one = (("x", "y"), rows[:7])
        told = (("x", "y"), (("letter", 0), ("letter", 1), ("plus", 0, 1), ("less", 2, 0)))
        self.assertEqual(pruned(one), told)
        self.assertEqual(pruned(told), told)
        self.assertEqual(one, (("x", "y"), rows[:7]))

    def test_all_needed(self):
        self.assertEqual(pruned(doubled("times")), doubled("times"))

    def test_last_row_alone(self):
        rows = (("letter", 0), ("plus", 0, 0), ("number", (1, 2)))
        self.assertEqual(pruned((("x",), rows)), (("x",), (("number", (1, 2)),)))
        self.assertEqual(pruned((("x", "y"), rows[:1] + (("letter", 1),))), (("x", "y"), (("letter", 1),)))

    def test_same_rows_stay_apart(self):
        one = (("x",), (("letter", 0), ("letter", 0), ("times", 0, 1)))
        self.assertEqual(pruned(one), one)


class Measures(unittest.TestCase):
    def test_depth(self):
        self.assertEqual(depth((("x",), (("letter", 0),))), 0)
        self.assertEqual(depth((("x",), (("number", (1, 2)),))), 0)
        self.assertEqual(depth(ALL_WORDS), 4)
        self.assertEqual(depth((("x",), (("letter", 0), ("plus", 0, 0), ("plus", 1, 1), ("times", 0, 2)))), 3)
        self.assertEqual(depth((("x",), (("letter", 0), ("plus", 0, 0), ("plus", 1, 1), ("times", 2, 0)))), 3)
        self.assertEqual(depth((("x",), (("letter", 0), ("plus", 0, 0), ("plus", 1, 1), ("letter", 0)))), 0)

    def test_products(self):
        rows = (("letter", 0), ("times", 0, 0), ("times", 0, 1), ("over", 1, 1), ("plus", 0, 3))
        self.assertEqual(products((("x",), rows)), 2)
        self.assertEqual(products(pruned((("x",), rows))), 1)
        self.assertEqual(products((("x",), rows[:1])), 0)

    def test_is_whole(self):
        rows = (("letter", 0), ("plus", 0, 0), ("times", 1, 0), ("less", 2, 2), ("number", (1, 2)))
        self.assertIs(is_whole((("x",), rows)), True)
        self.assertIs(is_whole((("x",), rows + (("over", 0, 1),))), False)
        self.assertIs(is_whole((("x",), (("letter", 0), ("over", 0, 0), ("letter", 0)))), False)


class Weights(unittest.TestCase):
    def test_each_word(self):
        rows = (("letter", 0), ("number", (7, 9)), ("over", 0, 1), ("times", 2, 2), ("plus", 3, 0), ("less", 0, 3),
                ("over", 3, 4), ("over", 4, 3), ("plus", 6, 7), ("times", 8, 0))
        self.assertEqual(weights((("x",), rows)), [
            (1, 0), (1, 0), (1, 1), (2, 2), (3, 2), (3, 2), (4, 5), (5, 4), (10, 9), (11, 9)])

    def test_the_greater_of_two(self):
        # Of (1, 2) and (3, 1): 1 + 1 and 3 + 2; both ways round.
        rows = (("letter", 0), ("over", 0, 0), ("times", 0, 0), ("times", 2, 1), ("over", 1, 0), ("plus", 4, 3),
                ("less", 3, 4))
        self.assertEqual(weights((("x",), rows))[3:], [(3, 1), (1, 2), (5, 3), (5, 3)])


class Sixty(unittest.TestCase):
    def test_answered_at_once(self):
        began = time.monotonic()
        for word in ("plus", "less", "times", "over"):
            one = doubled(word)
            self.assertIs(look_reckoning(one), True)
            self.assertEqual(pruned(one), one)
            self.assertEqual(depth(one), 59)
            self.assertEqual(products(one), 59 if word == "times" else 0)
            self.assertIs(is_whole(one), word != "over")
            self.assertEqual(len(weights(one)), 60)
        self.assertLess(time.monotonic() - began, 2)

    def test_weights(self):
        self.assertEqual(weights(doubled("times")), [(2 ** at, 0) for at in range(60)])
        self.assertEqual(weights(doubled("plus")), [(1, 0)] * 60)
        self.assertEqual(weights(doubled("less")), [(1, 0)] * 60)
        self.assertEqual(weights(doubled("over")), [(1, 0)] + [(2 ** at, 2 ** at) for at in range(59)])


class Keeping(unittest.TestCase):
    def test_told_lists_are_the_askers_own(self):
        first = weights(ALL_WORDS)
        kept = list(first)
        first[0] = None
        first.append(5)
        self.assertEqual(weights(ALL_WORDS), kept)
        self.assertIs(type(weights(ALL_WORDS)), list)
