"""Small reckonings of one letter, gone through for the fewest products."""

from undivide.fractions import ONE
from undivide.newrows import NewRows

# Polynomials are here tuples of the whole numbers before the powers from 0 to 4: two products come to no greater one.
POWERS = 5
NUMBER = (1, 0, 0, 0, 0)
LETTER = (0, 1, 0, 0, 0)
SIGNS = (0, 1, -1)


def whole_numbers(poly):
    """The whole numbers before a polynomial's powers, or None where it has fractions or greater powers."""
    told = [0] * POWERS
    for powers, f in poly:
        if powers[0] >= POWERS or f[1] != 1:
            return None
        told[powers[0]] = f[0]
    return tuple(told)


def numbers_plus(one, other, sign):
    """The first polynomial and the second times sign, added."""
    return tuple([first + sign * second for first, second in zip(one, other)])


def numbers_times(one, other):
    """The product of two polynomials whose degrees add up to no more than 4."""
    told = [0] * POWERS
    for power, many in enumerate(one):
        for more in range(POWERS - power):
            told[power + more] += many * other[more]
    return tuple(told)


def mixes(things):
    """A dict of all mixes of polynomials, each with its signs."""
    told = {(0,) * POWERS: ()}
    for thing in things:
        told = {numbers_plus(mix, thing, sign): signs + (sign,) for mix, signs in told.items() for sign in SIGNS}
    return told


def products_of(things):
    """A dict of all products of two mixes of polynomials, each with the signs of both."""
    pairs = list(mixes(things).items())
    told = {}
    for one, signs in pairs:
        for other, others in pairs:
            told.setdefault(numbers_times(one, other), (signs, others))
    return told


def thing_row(made, at, rows):
    """The number of the row of a mix's thing: 1, the letter, or one of the rows of products."""
    if at == 0:
        return made.shared(("number", ONE))
    return made.shared(("letter", 0)) if at == 1 else rows[at - 2]


def mix_row(made, signs, rows):
    """The number of a row of a mix."""
    return made.sum_row([(sign > 0, thing_row(made, at, rows)) for at, sign in enumerate(signs) if sign != 0])


def small_reckoning(factors, signs):
    """The reckoning with a product for each pair of mixes that comes to a mix, all of them told by their signs."""
    made = NewRows()
    rows = []
    for one, other in factors:
        first = mix_row(made, one, rows)
        rows.append(made.add_new(("times", first, mix_row(made, other, rows))))
    mix_row(made, signs, rows)
    return (("x",), tuple(made.rows))


def with_two(target, things, factors):
    """The reckoning with a second product, beside a first one that is the last of things, or None."""
    seconds = products_of(things)
    # What is taken off is a product as well, of mixes one of which is taken off, so that adding one is enough.
    for rest, signs in mixes(things).items():
        left = numbers_plus(target, rest, -1)
        if left in seconds:
            return small_reckoning([factors, seconds[left]], signs + (1,))
    return None


def cheapest(poly):
    """A tuple (products, reckoning) with the fewest products, or None where two aren't enough."""
    target = whole_numbers(poly)
    if target is None:
        return None
    things = [NUMBER, LETTER]
    known = mixes(things)
    if target in known:
        return (0, small_reckoning([], known[target]))
    firsts = products_of(things)
    for first, factors in firsts.items():
        known = mixes(things + [first])
        if target in known:
            return (1, small_reckoning([factors], known[target]))
    for first, factors in firsts.items():
        told = with_two(target, things + [first], factors)
        if told is not None:
            return (2, told)
    return None
