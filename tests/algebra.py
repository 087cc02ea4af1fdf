"""Plain definitions that the tests hold the program against: polynomials as dicts of Fraction."""

from fractions import Fraction
from itertools import product


def pair(f):
    """A Fraction as the program tells it."""
    return (f.numerator, f.denominator)


def told(terms):
    """A dict of Fraction by powers as the program tells a polynomial."""
    return tuple(sorted((powers, pair(f)) for powers, f in terms.items() if f))


def terms_of(poly):
    """A told polynomial as a dict of Fraction by powers."""
    return {powers: Fraction(*f) for powers, f in poly}


def added(one, other, sign=1):
    sums = dict(one)
    for powers, f in other.items():
        sums[powers] = sums.get(powers, Fraction(0)) + sign * f
    return {powers: f for powers, f in sums.items() if f}


def multiplied(one, other):
    sums = {}
    for (powers, f), (others, g) in product(one.items(), other.items()):
        both = tuple(a + b for a, b in zip(powers, others))
        sums[both] = sums.get(both, Fraction(0)) + f * g
    return {powers: f for powers, f in sums.items() if f}


def at_point(terms, point):
    total = Fraction(0)
    for powers, f in terms.items():
        for place, power in zip(point, powers):
            f = f * Fraction(*place) ** power
        total += f
    return total


def letter(k, many):
    """The dict of the letter numbered k of many."""
    return {tuple(int(at == k) for at in range(many)): Fraction(1)}


def number(f, many):
    """The dict of a number, in many letters."""
    return {(0,) * many: Fraction(f)} if f else {}


def moved(terms, point):
    """Each letter exchanged for letter and fraction, product by product."""
    many = len(point)
    total = {}
    for powers, f in terms.items():
        part = number(f, many)
        for k, power in enumerate(powers):
            for _ in range(power):
                part = multiplied(part, added(letter(k, many), number(Fraction(*point[k]), many)))
        total = added(total, part)
    return total


def some_terms(chance, many, most_terms, most_power, most_number):
    """Some polynomial, as a dict."""
    terms = {}
    for _ in range(chance.randint(0, most_terms)):
        powers = tuple(chance.randint(0, most_power) for _ in range(many))
        terms[powers] = Fraction(chance.randint(-most_number, most_number), chance.randint(1, most_number))
    return {powers: f for powers, f in terms.items() if f}


def some_fraction(chance, most):
    return pair(Fraction(chance.randint(-most, most), chance.randint(1, most)))
