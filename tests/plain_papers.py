"""Power rows, rules and papers, just as points 16, 18 and 19 tell them, over dicts of Fraction."""

from fractions import Fraction

import algebra


def plain_run(reckoning, point):
    """All rows' values by Python's own fractions."""
    values = []
    for word, *things in reckoning[1]:
        if word == "number":
            values.append(Fraction(*things[0]))
        elif word == "letter":
            values.append(Fraction(*point[things[0]]))
        else:
            a, b = (values[at] for at in things)
            values.append(a + b if word == "plus" else a - b if word == "less" else a * b if word == "times" else a / b)
    return values


def plain_power_rows(reckoning, point, most):
    """All power rows, as dicts."""
    many = len(point)
    told = []
    for word, *things in reckoning[1]:
        if word == "number":
            row = [algebra.number(Fraction(*things[0]), many)] + [{}] * most
        elif word == "letter":
            row = [algebra.number(Fraction(*point[things[0]]), many), algebra.letter(things[0], many)] + [{}] * most
        else:
            a, b = (told[at] for at in things)
            row = []
            for k in range(most + 1):
                if word in ("plus", "less"):
                    row.append(algebra.added(a[k], b[k], 1 if word == "plus" else -1))
                    continue
                total = {} if word == "times" else a[k]
                for i in range(0 if word == "times" else 1, k + 1):
                    one, other = (a[i], b[k - i]) if word == "times" else (b[i], row[k - i])
                    total = algebra.added(total, algebra.multiplied(one, other), 1 if word == "times" else -1)
                if word == "over":
                    total = {powers: f / b[0][(0,) * many] for powers, f in total.items()}
                row.append(total)
        told.append(row[:most + 1])
    return told


def plain_sum(reckoning, point, most):
    """The sum of the last power row, each letter exchanged for it less its fraction, as told."""
    total = {}
    for part in plain_power_rows(reckoning, point, most)[-1]:
        total = algebra.added(total, part)
    return algebra.told(algebra.moved(total, [(-n, d) for n, d in point]))


def form_times(one, other):
    told = {}
    for product, f in one.items():
        for others, g in other.items():
            both = tuple(sorted(product + others, key=repr))
            told[both] = told.get(both, 0) + f * g
    return {product: f for product, f in told.items() if f}


def row_form(word, things, forms):
    """The form of a new row, no over, by those of the rows ahead."""
    if word == "number":
        return {(): Fraction(*things[0])} if things[0][0] else {}
    if word == "letter":
        return {(("letter", things[0]),): Fraction(1)}
    if word == "times":
        return form_times(forms[things[0]], forms[things[1]])
    return algebra.added(forms[things[0]], forms[things[1]], 1 if word == "plus" else -1)


class PlainRules:
    """The rules of all marks of a reckoning at a good point."""

    def __init__(self, reckoning, point, most):
        self.rows = reckoning[1]
        self.point = point
        self.most = most
        self.values = plain_run(reckoning, point)
        self.rules = {}
        for i in range(len(self.rows)):
            for k in range(1, most + 1):
                self.rules[i, k] = self.rule(i, k)

    def number(self, f):
        return {(): Fraction(f)} if f else {}

    def read(self, i, k):
        if k == 0:
            return self.number(self.values[i])
        if self.rows[i][0] == "letter" or not self.rules[i, k]:
            return self.rules[i, k]
        return {((i, k),): Fraction(1)}

    def rule(self, i, k):
        word, *things = self.rows[i]
        if word == "number" or (word == "letter" and k > 1):
            return {}
        if word == "letter":
            letter = {(("letter", things[0]),): Fraction(1)}
            return algebra.added(letter, self.number(Fraction(*self.point[things[0]])), -1)
        a, b = things
        if word in ("plus", "less"):
            return algebra.added(self.read(a, k), self.read(b, k), 1 if word == "plus" else -1)
        total = {} if word == "times" else self.read(a, k)
        for e in range(0 if word == "times" else 1, k + 1):
            if word == "times":
                total = algebra.added(total, form_times(self.read(a, e), self.read(b, k - e)))
            else:
                total = algebra.added(total, form_times(self.read(b, e), self.read(i, k - e)), -1)
        return total if word == "times" else {product: f / self.values[b] for product, f in total.items()}

    def last(self):
        total = {}
        for k in range(self.most + 1):
            total = algebra.added(total, self.read(len(self.rows) - 1, k))
        return total


def plain_refusal(reckoning, point, most, new, paper):
    """The first new row by which a paper isn't let by, or None where it is."""
    rules = PlainRules(reckoning, point, most)
    letters, rows = new
    if letters != reckoning[0] or len(paper) != len(rows):
        return 0
    forms = []
    for at, (word, *things) in enumerate(rows):
        if word == "over":
            return at
        form = row_form(word, things, forms)
        if len(form) > 80 or any(len(product) > 4 for product in form):
            return at
        if paper[at] is not None:
            i, k = paper[at]
            there = 0 <= i < len(reckoning[1]) and 1 <= k <= most
            if not there or reckoning[1][i][0] == "letter" or not rules.rules[i, k] or form != rules.rules[i, k]:
                return at
            form = {((i, k),): Fraction(1)}
        forms.append(form)
    return None if forms[-1] == rules.last() else len(rows)
