"""Marks, rules and papers of nets, just as points 27 and 28 tell them, over dicts of Fraction."""

from fractions import Fraction

import algebra
from plain_nets import plain_polys, plain_share
from plain_papers import form_times, row_form


def degrees_of(net):
    told = []
    for word, *things in net[1]:
        told.append(1 if word == "letter" else told[things[0][0][1]] if word == "mix" else told[things[0]] + told[things[1]])
    return told


class PlainNet:
    """A net with its nodes' polynomials and degrees."""

    def __init__(self, net):
        self.net = net
        self.polys = plain_polys(net)
        self.degrees = degrees_of(net)

    def letters(self, terms):
        """A polynomial of degree 0 or 1 as a form."""
        return {tuple(("letter", k) for k, power in enumerate(powers) if power): f for powers, f in terms.items()}

    def node(self, u):
        return self.letters(self.polys[u]) if self.degrees[u] == 1 else {(("node", u),): Fraction(1)}

    def nought(self, u, v):
        if u == v:
            return False
        word, *things = self.net[1][u]
        if word == "mix":
            return all(self.nought(part, v) for f, part in things[0])
        return word == "letter" or self.nought(things[0], v)

    def share(self, u, v):
        if self.nought(u, v):
            return {}
        if self.degrees[u] - self.degrees[v] < 2:
            return self.letters(plain_share(self.net, self.polys, u, v))
        return {(("share", u, v),): Fraction(1)}

    def rule(self, u, v, m):
        """The rule of node u, v being None, or of v's share in it."""
        total = {}
        for t, (word, *things) in enumerate(self.net[1]):
            if word == "times" and self.degrees[t] > m and not self.degrees[things[0]] > m:
                first = self.node(things[0]) if v is None else self.share(things[0], v)
                total = algebra.added(total, form_times(form_times(first, self.node(things[1])), self.share(u, t)))
        return total

    def is_there(self, u, v, m):
        if not all(0 <= at < len(self.degrees) for at in (u, u if v is None else v)):
            return False
        low = 0 if v is None else self.degrees[v]
        if self.degrees[u] - low < 2 or not (1 if v is None else low) <= m < self.degrees[u]:
            return False
        return v is None or not self.nought(u, v)

    def last(self):
        f, outs = self.net[2]
        total = {(): Fraction(*f)} if f[0] else {}
        for out in outs:
            if out is not None:
                total = algebra.added(total, self.node(out))
        return total


def plain_shallow_refusal(net, reckoning, paper):
    """The first row by which a paper isn't let by, or None where it is."""
    plain = PlainNet(net)
    letters, rows = reckoning
    if letters != net[0] or len(paper) != len(rows):
        return 0
    forms = []
    for at, (word, *things) in enumerate(rows):
        if word == "over":
            return at
        form = row_form(word, things, forms)
        if len(form) > 300 or any(len(product) > 6 for product in form):
            return at
        if paper[at] is not None:
            u, v, m = paper[at] if len(paper[at]) == 3 else (paper[at][0], None, paper[at][1])
            if not plain.is_there(u, v, m) or form != plain.rule(u, v, m):
                return at
            form = {(("node", u) if v is None else ("share", u, v),): Fraction(1)}
        forms.append(form)
    return None if forms[-1] == plain.last() else len(rows)
