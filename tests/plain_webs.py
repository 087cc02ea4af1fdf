"""Webs and tables that tests are made of, and what they come to by the plain definitions, over dicts of Fraction."""

from fractions import Fraction
from itertools import permutations

import algebra

ONE, HALF, LESS = (1, 1), (1, 2), (-1, 1)


def entry_terms(entry, many):
    """An entry as a dict."""
    f, letter = entry
    part = algebra.number(1, many) if letter is None else algebra.letter(letter, many)
    return {powers: g * Fraction(*f) for powers, g in part.items() if f[0]}


def plain_web(web):
    """The sum over all walks of their entries multiplied, walk by walk, as told."""
    letters, dots, ways = web
    many = len(letters)
    total = {}
    waiting = [(0, algebra.number(1, many))]
    while waiting:
        dot, product = waiting.pop()
        if dot == dots - 1:
            total = algebra.added(total, product)
        for start, end, entry in ways:
            if start == dot:
                waiting.append((end, algebra.multiplied(product, entry_terms(entry, many))))
    return algebra.told(total)


def some_entry(chance, many, most=4):
    f = (0, 1)
    while f[0] == 0:
        f = chance.choice((ONE, LESS, algebra.some_fraction(chance, most)))
    return (f, chance.choice([None] + list(range(many))))


def some_web(chance, dots, share=0.5):
    """Some web of so many dots, of each way with this chance."""
    letters = ("x", "y", "z")[:chance.randint(1, 3)]
    ways = [(start, end, some_entry(chance, len(letters))) for start in range(dots) for end in range(start + 1, dots)
            if chance.random() < share]
    return (letters, dots, tuple(ways))


def line(dots, entry, letters=("x",)):
    """A web of one walk by all dots."""
    return (letters, dots, tuple((at, at + 1, entry) for at in range(dots - 1)))


def plain_table(table):
    """The signed sum of products, order by order, as told."""
    letters, rows = table
    many, places = len(letters), range(len(rows))
    total = {}
    for order in permutations(places):
        odd = sum(order[one] > order[other] for one in places for other in range(one + 1, len(rows))) % 2
        part = algebra.number(1, many)
        for row, column in zip(rows, order):
            part = algebra.multiplied(part, entry_terms(row[column], many))
        total = algebra.added(total, part, -1 if odd else 1)
    return algebra.told(total)


def some_table(chance, size, noughts=0.2, most=4):
    """Some table of so many rows, with this share of noughts, some of them noughts of letters."""
    letters = ("x", "y", "z")[:chance.randint(1, 3)]
    many = len(letters)
    rows = []
    for _ in range(size):
        rows.append(tuple(((0, 1), chance.choice([None] + list(range(many)))) if chance.random() < noughts
                          else some_entry(chance, many, most) for _ in range(size)))
    return (letters, tuple(rows))


def table_at(table, point):
    """A table's signed sum at a point, by exchanging and taking off rows."""
    rows = [[Fraction(*f) * (1 if k is None else Fraction(*point[k])) for f, k in row] for row in table[1]]
    told = Fraction(1)
    for at in range(len(rows)):
        found = [k for k in range(at, len(rows)) if rows[k][at]]
        if not found:
            return Fraction(0)
        if found[0] != at:
            rows[at], rows[found[0]] = rows[found[0]], rows[at]
            told = -told
        told *= rows[at][at]
        for k in range(at + 1, len(rows)):
            if rows[k][at]:
                part = rows[k][at] / rows[at][at]
                rows[k] = [a - part * b for a, b in zip(rows[k], rows[at])]
    return told
