"""Webs that tests are made of, and what they stand for by the plain definition, over dicts of Fraction."""

from fractions import Fraction

import algebra

ONE, HALF, LESS = (1, 1), (1, 2), (-1, 1)


def entry_terms(entry, many):
    """An entry as a dict."""
    f, letter = entry
    part = algebra.number(1, many) if letter is None else algebra.letter(letter, many)
    return {powers: g * Fraction(*f) for powers, g in part.items() if f[0]}


def plain_web(web):
    """The sum over all walks of their entries multiplied, walk by walk, as told."""
    letters, dots, ways = web
    many = len(letters)
    total = {}
    waiting = [(0, algebra.number(1, many))]
    while waiting:
        dot, product = waiting.pop()
        if dot == dots - 1:
            total = algebra.added(total, product)
        for start, end, entry in ways:
            if start == dot:
                waiting.append((end, algebra.multiplied(product, entry_terms(entry, many))))
    return algebra.told(total)


def some_entry(chance, many, most=4):
    f = (0, 1)
    while f[0] == 0:
        f = chance.choice((ONE, LESS, algebra.some_fraction(chance, most)))
    return (f, chance.choice([None] + list(range(many))))


def some_web(chance, dots, share=0.5):
    """Some web of so many dots, of each way with this chance."""
    letters = ("x", "y", "z")[:chance.randint(1, 3)]
    ways = [(start, end, some_entry(chance, len(letters))) for start in range(dots) for end in range(start + 1, dots)
            if chance.random() < share]
    return (letters, dots, tuple(ways))


def line(dots, entry, letters=("x",)):
    """A web of one walk by all dots."""
    return (letters, dots, tuple((at, at + 1, entry) for at in range(dots - 1)))
