"""Points 37 and 38: the desk."""

import time
import unittest
from random import Random

import algebra
import makings
from undivide.desk import Desk
from undivide.errors import (
    BadText, NoName, NoOver, NoRow, NotPolynomial, NotWhole, OtherLetters, TooMany, UndivideError)
from undivide.fractions import fraction_text
from undivide.netted import net_of
from undivide.polys import degree
from undivide.quotients import good_point, polynomial_of
from undivide.reckonings import depth, is_whole, products, pruned
from undivide.shallow import shallow
from undivide.shown import show_reckoning
from undivide.texts import read_reckoning
from undivide.undivided import undivided

# (x x - y y) over (x - y), which is x + y; x + y itself; 1 over x; over x - x; 2 x - 1/3, whole; noughts.
TEXTS = {
    "quot": "letters x y;a = x * x;b = y * y;c = a - b;d = x - y;e = c / d;give e",
    "sum": "letters x y;a = x + y;give a",
    "none": "letters x;a = 1 / x;give a",
    "bad": "letters x;a = x - x;b = x / a;give b",
    "line": "letters x;a = 2 * x;b = a - 1/3;give b",
    "nought": "letters x;a = x - x;give a",
    "zero": "letters x y;a = x + y;b = a - x;c = b - y;give c",
    "turned": "letters y x;a = x + y;give a",
    "three": "letters x y z;a = x * y;b = a * z;c = b - 7/2;give c",
}


class Desks(unittest.TestCase):
    def setUp(self):
        self.desk = Desk()
        for name, text in TEXTS.items():
            self.assertEqual(self.desk.say(f"keep {name} {text}"), "ok")

    def says(self, row, answer):
        told = self.desk.say(row)
        self.assertIs(type(told), str)
        self.assertEqual(told, answer, row)

    def shown(self):
        return [self.desk.say(f"show {name}") for name in TEXTS]

    def refused(self, error, row, **fields):
        """Each refusal, and that it changes nothing."""
        ahead = self.shown()
        with self.assertRaises(UndivideError, msg=repr(row)) as kept:
            self.desk.say(row)
        self.assertIs(type(kept.exception), error, repr(row))
        for name, thing in fields.items():
            self.assertEqual(getattr(kept.exception, name), thing, repr(row))
        self.assertEqual(self.shown(), ahead)
        for name in ("new", "fresh"):
            with self.assertRaises(NoName):
                self.desk.say(f"show {name}")


class Answers(Desks):
    def test_keep_and_show(self):
        self.says("show quot", "letters x y;r2 = x * x;r3 = y * y;r4 = r2 - r3;r5 = x - y;r6 = r4 / r5;give r6")
        self.says("show sum", "letters x y;r2 = x + y;give r2")
        self.says("show line", "letters x;r2 = 2 * x;r4 = r2 - 1/3;give r4")
        self.says("keep k letters x;give x", "ok")
        self.says("show k", "letters x;give x")
        self.says("keep k letters x;a = -5/3;give a", "ok")
        self.says("show k", "letters x;r0 = -5/3;give r0")
        self.says("keep k letters x;part sq a;b = a * a;end;rounds 2;x = sq x;end;give x", "ok")
        self.says("show k", "letters x;r1 = x * x;r2 = r1 * r1;give r2")
        for name, text in TEXTS.items():
            self.says(f"show {name}", show_reckoning(read_reckoning(text.replace(";", "\n"))).replace("\n", ";"))

    def test_names(self):
        for name in ("a", "z9", "a12345", "keep", "show", "ok", "at", "x", "alike", "letter", "ends"):
            self.says(f"keep {name} letters x;give x", "ok")
            self.says(f"show {name}", "letters x;give x")
            self.says(f"undivide {name} {name}", "ok")

    def test_run(self):
        self.says("run quot 3 1/2", "7/2")
        self.says("run quot -3 1/2", "-5/2")
        self.says("run sum 0 0", "0")
        self.says("run none 7", "1/7")
        self.says("run line -1/6", "-2/3")
        self.says("run three 2 3 5", "53/2")
        self.says("run three 999/998 -997 0", "-7/2")

    def test_point(self):
        self.says("point quot", "0 1")
        self.says("point sum", "0 0")
        self.says("point none", "1")
        self.says("point three", "0 0 0")
        self.says("keep k letters x y;a = x - 1;b = y * a;c = x / b;d = c / x;give d", "ok")
        self.says("point k", "2 1")

    def test_poly(self):
        self.says("poly quot", "1:0,1 1:1,0")
        self.says("poly none", "none")
        self.says("poly nought", "0")
        self.says("poly line", "-1/3:0 2:1")
        self.says("poly three", "-7/2:0,0,0 1:1,1,1")
        self.says("keep k letters x;a = 5/7;give a", "ok")
        self.says("poly k", "5/7:0")

    def test_undivide(self):
        for name in ("quot", "sum", "line", "nought", "zero", "three"):
            one = read_reckoning(TEXTS[name].replace(";", "\n"))
            poly = polynomial_of(one)
            new, paper = undivided(one, good_point(one), max(0, degree(poly)))
            self.says(f"undivide k {name}", "ok")
            self.says("show k", show_reckoning(new).replace("\n", ";"))
            self.says("poly k", self.desk.say(f"poly {name}"))
            self.says(f"part k {name}", "alike")
            self.says(f"part {name} k", "alike")
            self.says("count k", self.counted(new))
        self.says("undivide k quot", "ok")
        self.says("run k 5 5", "10")
        self.says("run k 1/2 -1/3", "1/6")

    def counted(self, reckoning):
        needed = pruned(reckoning)
        return f"{len(needed[1])} {products(needed)} {depth(needed)}"

    def test_shallow(self):
        for name in ("sum", "line", "nought", "zero", "three"):
            one = read_reckoning(TEXTS[name].replace(";", "\n"))
            poly = polynomial_of(one)
            new, paper = shallow(net_of(one, max(0, degree(poly))))
            self.says(f"shallow k {name}", "ok")
            self.says("show k", show_reckoning(new).replace("\n", ";"))
            self.says("poly k", self.desk.say(f"poly {name}"))
            self.says(f"part k {name}", "alike")
            self.says("count k", self.counted(new))
        self.says("run k 2 3 5", "53/2")

    def test_part(self):
        self.says("part quot sum", "alike")
        self.says("part sum quot", "alike")
        self.says("part sum sum", "alike")
        self.says("part line nought", "at 0")
        self.says("keep k letters x y;a = x - 1;b = x * a;c = a * y;d = c * b;give d", "ok")
        self.says("keep l letters x y;a = x - x;give a", "ok")
        self.says("part k l", "at 2 1")
        self.says("part l k", "at 2 1")
        # At the point the first one of the two stops.
        self.says("keep k letters x;a = x * x;b = a / x;c = b + 1;give c", "ok")
        self.says("keep l letters x;give x", "ok")
        self.says("part k l", "at 0")

    def test_count(self):
        self.says("count quot", "7 2 3")
        self.says("count sum", "3 0 1")
        self.says("count line", "5 1 2")
        self.says("count three", "7 2 3")
        self.says("keep k letters x;give x", "ok")
        self.says("count k", "1 0 0")

    def test_count_of_made_ones_is_of_them_pruned(self):
        chance = Random(181)
        for _ in range(40):
            one = makings.some_reckoning(chance, 8, 3, ("plus", "less", "times"))
            text = show_reckoning(one).replace("\n", ";")
            self.says(f"keep k {text}", "ok")
            for word in ("undivide", "shallow"):
                self.says(f"{word} l k", "ok")
                kept = read_reckoning(text.replace(";", "\n"))
                most = max(0, degree(polynomial_of(kept)))
                new = undivided(kept, good_point(kept), most)[0] if word == "undivide" else shallow(net_of(kept, most))[0]
                self.says("count l", self.counted(new))

    def test_kept_anew(self):
        self.says("undivide made sum", "ok")
        made = self.desk.say("show made")
        self.says("keep sum letters x;give x", "ok")
        self.says("show sum", "letters x;give x")
        self.says("show made", made)
        self.says("poly made", "1:0,1 1:1,0")
        # In its own name's place.
        self.says("undivide quot quot", "ok")
        self.says("poly quot", "1:0,1 1:1,0")
        self.assertNotIn("/", self.desk.say("show quot"))
        self.says("run quot 2 2", "4")
        before = self.desk.say("poly three")
        self.says("shallow made three", "ok")
        self.says("shallow three three", "ok")
        self.says("poly three", before)
        self.says("part made three", "alike")
        self.assertEqual(self.desk.say("show made"), self.desk.say("show three"))

    def test_degree_0_at_least(self):
        self.says("undivide k nought", "ok")
        self.says("poly k", "0")
        self.says("shallow k nought", "ok")
        self.says("poly k", "0")

    def test_two_desks(self):
        other = Desk()
        with self.assertRaises(NoName):
            other.say("show sum")
        other.say("keep sum letters x;give x")
        other.say("keep more letters x;give x")
        self.says("show sum", "letters x y;r2 = x + y;give r2")
        with self.assertRaises(NoName):
            self.desk.say("show more")
        self.desk.say("keep sum letters z;give z")
        self.assertEqual(other.say("show sum"), "letters x;give x")

    def test_told_again_the_same(self):
        for row in ("show quot", "poly quot", "point quot", "count quot", "run quot 1 2", "part quot sum"):
            self.assertEqual(self.desk.say(row), self.desk.say(row))
        self.desk.say("undivide k quot")
        first = self.desk.say("show k")
        self.desk.say("undivide k quot")
        self.says("show k", first)

    def test_some(self):
        chance = Random(182)
        for _ in range(40):
            one, told = makings.with_quotients(chance, 10, 6)
            text = show_reckoning(one).replace("\n", ";")
            self.says(f"keep k {text}", "ok")
            point = makings.some_point(chance, one[0])
            words = " ".join(map(fraction_text, point))
            kept = read_reckoning(text.replace(";", "\n"))
            pairs = " ".join(f"{fraction_text(f)}:{','.join(map(str, powers))}" for powers, f in told)
            self.says("poly k", pairs or "0")
            self.says("point k", " ".join(map(fraction_text, good_point(kept))))
            if degree(told) <= 4:
                self.says("undivide new k", "ok")
                self.says(f"run new {words}", fraction_text(algebra.pair(algebra.at_point(algebra.terms_of(told), point))))
                self.says("part k new", "alike")

    def test_in_time(self):
        began = time.monotonic()
        lines = ["letters x y z", "a = x + 999983/999979", "b = a * y", "c = b - z", "d = c / a", "e = d * a", "f = e * c",
                 "g = f / b", "h = g * b", "give h"]
        self.says(f"keep k {';'.join(lines)}", "ok")
        self.says("undivide l k", "ok")
        self.says("part k l", "alike")
        self.desk.say("show l")
        self.desk.say("count l")
        lines = ["letters x y z", "a = x + 999983/999979", "b = a + y", "c = b - z", "d = c * b", "give d"]
        self.says(f"keep k {';'.join(lines)}", "ok")
        self.says("shallow l k", "ok")
        self.says("part k l", "alike")
        self.assertLess(time.monotonic() - began, 5)


class NoRows(Desks):
    def none(self, *rows):
        for row in rows:
            self.refused(NoRow, row)

    def test_no_texts(self):
        self.none(None, 0, 7, (), ("show", "sum"), [], ["show", "sum"], True, b"show sum")

    def test_no_words(self):
        self.none("", " ", "  ", "\n", ";")

    def test_other_words(self):
        self.none("ask sum", "Show sum", "shows sum", "sum", "sum show", "divide new quot", "undivided new quot", "KEEP a b",
                  "keeps k letters x;give x", "letters x", "ok", "show;sum", "x = y")

    def test_blanks(self):
        for row in ("show sum", "run quot 1 2", "point quot", "poly quot", "undivide new sum", "shallow new sum",
                    "part sum quot", "count sum"):
            words = row.split(" ")
            self.none(" " + row, row + " ", "  ".join(words), row.replace(" ", "\t"))
            for at in range(1, len(words)):
                self.none(" ".join(words[:at]) + "  " + " ".join(words[at:]))
        self.none(" keep new letters x;give x", "keep  new letters x;give x", "keep", "keep ", "keep  ")

    def test_too_many_and_too_few_words(self):
        for word, many in (("show", 1), ("point", 1), ("poly", 1), ("count", 1), ("undivide", 2), ("shallow", 2), ("part", 2)):
            for count in range(5):
                if count != many:
                    # Whatever the names are, kept or none at all.
                    for name in ("sum", "gone", "9", "X"):
                        self.none(" ".join([word] + [name] * count))
        self.none("run", "run ", "run  ", "run gone ", "run 9 ", "run  sum", "run gone  1", "run 9 1 ")
        self.none("keep", "keep new", "keep new ", "keep 9", "keep X ", "keep sum", "keep sum ")

    def test_line_feeds(self):
        for row in ("show sum", "run quot 1 2", "point quot", "undivide new sum", "part sum quot"):
            self.none(row + "\n", "\n" + row, row.replace(" ", "\n"), row.replace(" ", "\n", 1), row + "\nshow sum",
                      row.replace(" ", " \n", 1))
        self.none("keep new letters x\ngive x", "keep new letters x;give x\n", "keep\nnew letters x;give x",
                  "keep new \nletters x;give x", "keep 9 letters x\ngive x", "keep new \n")

    def test_run_of_another_count(self):
        self.none("run quot", "run quot 1", "run quot 1 2 3", "run none 1 2", "run line", "run three 1 2", "run sum 1 2 3 4")
        # Ahead of what the fractions are, and of a stop at them.
        self.none("run quot x", "run quot x y z", "run none 0 0", "run quot 1 1 1")


class NoNames(Desks):
    def no_name(self, name, *rows):
        for row in rows:
            self.refused(NoName, row, name=name)

    def test_names_that_are_none(self):
        for name in ("9", "X", "aB", "a1234567", "abcdefg", "letters", "part", "rounds", "end", "give", "a_b", "a;b", "-", "/",
                     "1/2", "sum;", ";", "a\t", "a,b"):
            self.no_name(name, f"show {name}", f"run {name}", f"run {name} 1", f"run {name} x y z u", f"point {name}",
                         f"poly {name}", f"count {name}", f"keep {name} letters x;give x", f"keep {name} what", f"undivide {name} sum",
                         f"shallow {name} sum", f"undivide new {name}", f"shallow new {name}", f"part {name} sum",
                         f"part sum {name}", f"part {name} {name}")

    def test_names_by_which_nothing_is_kept(self):
        for name in ("gone", "a", "sums", "su", "x", "r2"):
            self.no_name(name, f"show {name}", f"run {name}", f"run {name} 1", f"run {name} x y z u", f"point {name}",
                         f"poly {name}", f"count {name}", f"undivide new {name}", f"shallow new {name}", f"undivide {name} {name}",
                         f"part {name} sum", f"part sum {name}", f"shallow sum {name}")

    def test_run_ahead_of_how_many_words(self):
        """On a desk that keeps nothing, too, as on one that keeps other names."""
        empty = Desk()
        for name in ("f0e", "9a", "gone", "X", "run", "end"):
            for words in ("", " 1", " x", " 1 2", " 1 2 3 4 5"):
                self.no_name(name, f"run {name}{words}")
                with self.assertRaises(NoName) as kept:
                    empty.say(f"run {name}{words}")
                self.assertEqual(kept.exception.name, name)

    def test_from_the_left(self):
        self.no_name("gone", "part gone lost", "part gone 9", "part sum gone", "undivide new gone")
        self.no_name("9", "part 9 gone", "undivide 9 gone", "shallow 9 X", "undivide 9 9", "undivide 9 bad", "shallow 9 quot")
        self.no_name("X", "part sum X", "undivide new X", "shallow sum X")

    def test_ahead_of_what_is_refused_beneath(self):
        self.no_name("gone", "part bad gone", "part gone bad", "part none gone", "undivide bad gone")
        self.no_name("9", "keep 9 ;", "keep 9 letters x;give y", "undivide 9 bad", "shallow 9 none", "shallow 9 bad")


class Beneath(Desks):
    def test_fractions(self):
        for word in ("x", "-0", "4/2", "1/1", "01", "+1", "1.5", "1/0", "1/-2", "--1", "1/2/3", ";", "sum", "1,2"):
            self.refused(BadText, f"run quot {word} 2", at=0)
            self.refused(BadText, f"run quot 2 {word}", at=0)
            self.refused(BadText, f"run quot {word} {word}", at=0)
        # Ahead of a stop.
        self.refused(BadText, "run bad x", at=0)
        self.refused(BadText, "run quot 1 01", at=0)

    def test_texts(self):
        for text, at in (("what", 0), (";", 0), ("letters x", 1), ("letters x;", 1), ("letters x;give x;", 2),
                         ("letters x x;give x", 0), ("letters x;give", 1), ("letters x;a = x ? x;give a", 1),
                         ("letters x;a = x * 1/1;give a", 1), ("letters x;part p a;give x", 2), ("letters x;rounds 2;give x", 2),
                         (" letters x;give x", 0), ("letters x;give x ", 1), ("letters  x;give x", 0), (" ", 0), ("x", 0),
                         ("letters x; give x", 1), ("letters x;;give x", 1), ("letters x;a = x  + x;give a", 1)):
            for name in ("new", "sum", "quot"):
                self.refused(BadText, f"keep {name} {text}", at=at)

    def test_names_in_texts(self):
        for text, name in (("letters x;give y", "y"), ("letters x;a = b + c;give a", "b"), ("letters x;a = f x;give a", "f"),
                           ("letters x;a = x + gone;give a", "gone"), ("letters x;a = sum + x;give a", "sum")):
            self.refused(NoName, f"keep new {text}", name=name)
            self.refused(NoName, f"keep sum {text}", name=name)

    def test_too_many(self):
        rounds = "rounds 9;rounds 9;rounds 9;x = x + x;end;end;end"
        self.refused(TooMany, f"keep new letters x;{rounds};give x", at=200)
        self.refused(TooMany, f"keep sum letters x;{rounds};give x", at=200)

    def test_not_good(self):
        for row in ("run bad 5", "point bad", "poly bad", "undivide new bad", "shallow new bad", "undivide sum bad",
                    "part bad none", "part line bad", "part bad bad"):
            self.refused(NoOver, row, at=2)
        self.refused(NoOver, "run quot 3 3", at=6)
        self.refused(NoOver, "run none 0", at=2)

    def test_other_letters(self):
        for row in ("part quot none", "part sum turned", "part turned sum", "part bad sum", "part sum bad", "part none quot",
                    "part three sum"):
            self.refused(OtherLetters, row)

    def test_no_polynomial(self):
        self.refused(NotPolynomial, "undivide new none", which=0)
        self.refused(NotPolynomial, "undivide sum none", which=0)
        self.refused(NotPolynomial, "undivide none none", which=0)
        # Ahead of that it isn't whole.
        self.refused(NotPolynomial, "shallow new none", which=0)
        self.refused(NotPolynomial, "part none line", which=0)
        self.refused(NotPolynomial, "part line none", which=1)
        self.refused(NotPolynomial, "part none none", which=0)
        self.refused(NotPolynomial, "part none bad", which=0)

    def test_not_whole(self):
        self.refused(NotWhole, "shallow new quot", at=6)
        self.refused(NotWhole, "shallow quot quot", at=6)
        self.desk.say("keep k letters x;a = x * x;b = a / x;c = x / 2;d = c * b;give d")
        self.refused(NotWhole, "shallow new k", at=2)
        # Rows that the text tells, but the reckoning doesn't need, are none of its.
        self.desk.say("keep k letters x;a = x / 2;b = x * x;c = b / 3;give c")
        self.refused(NotWhole, "shallow new k", at=3)
        self.desk.say("undivide k k")
        self.says("shallow k k", "ok")

    def test_what_is_whole_when_made_anew(self):
        self.desk.say("undivide k quot")
        self.says("shallow l k", "ok")
        self.says("part l quot", "alike")
        self.assertTrue(is_whole(read_reckoning(self.desk.say("show l").replace(";", "\n"))))
