"""Polynomials: sorted tuples of pairs (powers, fraction), no fraction nought, no powers twice."""

from undivide.fractions import common_factor, fraction, plus, times


def gathered(terms):
    """The polynomial of pairs in any order, like powers added."""
    sums = {}
    for powers, f in terms:
        sums[powers] = plus(sums[powers], f) if powers in sums else f
    return tuple(sorted([(powers, f) for powers, f in sums.items() if f[0] != 0]))


def poly(terms):
    """The polynomial of a list of pairs (powers, fraction), like powers added."""
    return gathered(terms)


def poly_plus(one, other):
    """The sum of two polynomials."""
    return gathered(one + other)


def poly_less(one, other):
    """The first polynomial less the second."""
    return gathered(one + tuple([(powers, (-f[0], f[1])) for powers, f in other]))


def over_common(pairs):
    """A list of pairs (powers, whole number), and what all these are over: the least common one."""
    common = 1
    for powers, f in pairs:
        common = common // common_factor(common, f[1]) * f[1]
    return [(powers, f[0] * (common // f[1])) for powers, f in pairs], common


def from_common(numbers, common):
    """The polynomial of a dict of whole numbers by powers, all of them over one number."""
    pairs = [(powers, fraction(many, common)) for powers, many in numbers.items() if many != 0]
    return tuple(sorted(pairs))


def is_one(pairs):
    """Whether a polynomial is the number 1."""
    return len(pairs) == 1 and pairs[0][1] == (1, 1) and not any(pairs[0][0])


def powers_plus(one, other):
    """The powers of the product of two products of letters."""
    return tuple([first + second for first, second in zip(one, other)])


def poly_times(one, other):
    """The product of two polynomials."""
    # Reckonings without quotients have 1 beneath in every row: this spares them most of the work.
    if is_one(one):
        return other
    if is_one(other):
        return one
    # Whole numbers over a common one want a common factor once a power, not once a product.
    first, first_common = over_common(one)
    second, second_common = over_common(other)
    sums = {}
    for powers, many in first:
        for others, more in second:
            both = powers_plus(powers, others)
            sums[both] = sums.get(both, 0) + many * more
    return from_common(sums, first_common * second_common)


def degree(poly):
    """The greatest sum of powers, -1 of nought."""
    return max([sum(powers) for powers, f in poly], default=-1)


def piece(poly, k):
    """The pairs whose powers add up to k."""
    return tuple([(powers, f) for powers, f in poly if sum(powers) == k])


def number_raised(base, power):
    """A whole number to a power from 0 on."""
    told = 1
    while power:
        if power & 1:
            told = told * base
        base = base * base
        power = power >> 1
    return told


def value(poly, point):
    """What a polynomial comes to with a point's fractions in the letters' places."""
    total = (0, 1)
    for powers, f in poly:
        above, beneath = f
        for place, power in zip(point, powers):
            above = above * number_raised(place[0], power)
            beneath = beneath * number_raised(place[1], power)
        total = plus(total, fraction(above, beneath))
    return total


def opened_power(power, step):
    """The fractions, by the letter's powers from 0 on, of letter and step added, to a power."""
    told = []
    choices = 1
    grown = (1, 1)
    for k in range(power, -1, -1):
        told.append(times((choices, 1), grown))
        choices = choices * k // (power - k + 1)
        grown = times(grown, step)
    told.reverse()
    return told


def letter_moved(pairs, at, step):
    """A polynomial with the letter numbered at exchanged for that letter and a step added."""
    opened = {}
    terms = []
    for powers, f in pairs:
        power = powers[at]
        if power not in opened:
            opened[power] = opened_power(power, step)
        for k, part in enumerate(opened[power]):
            terms.append((powers[:at] + (k,) + powers[at + 1:], times(f, part)))
    return gathered(terms)


def moved(poly, point):
    """A polynomial with each letter exchanged for that letter and the point's fraction added."""
    told = poly
    for at, step in enumerate(point):
        told = letter_moved(told, at, step)
    return told


def rank(powers):
    """What products of letters are ordered by in a division: degrees first, so that none grows."""
    return (sum(powers), powers)


def without_content(pairs):
    """A dict of whole numbers without a common factor by powers, and the fraction they are times."""
    numbers, common = over_common(pairs)
    content = 0
    for powers, many in numbers:
        content = common_factor(content, abs(many))
    return {powers: many // content for powers, many in numbers}, fraction(content, common)


def take_off(rest, divisor, powers, many):
    """Takes the divisor, times many and the powers, off the rest."""
    for others, more in divisor.items():
        both = powers_plus(powers, others)
        left = rest.get(both, 0) - many * more
        if left:
            rest[both] = left
        else:
            del rest[both]


def whole_quotient(dividend, divisor):
    """The quotient of two dicts of whole numbers by powers, or None where it isn't one of these."""
    rest = dict(dividend)
    lead = max(list(divisor), key=rank)
    told = {}
    while rest:
        top = max(list(rest), key=rank)
        powers = tuple([high - low for high, low in zip(top, lead)])
        if min(powers) < 0 or rest[top] % divisor[lead] != 0:
            return None
        told[powers] = rest[top] // divisor[lead]
        take_off(rest, divisor, powers, told[powers])
    return told


def parted_by(poly, other):
    """The polynomial that times the other one, not nought, is the first; or None."""
    if poly == ():
        return ()
    # Without their contents, one is a multiple of the other with whole numbers or not at all (Gauss).
    dividend, content = without_content(poly)
    divisor, other_content = without_content(other)
    quotient = whole_quotient(dividend, divisor)
    if quotient is None:
        return None
    return from_common({powers: many * content[0] * other_content[1] for powers, many in quotient.items()},
                       content[1] * other_content[0])
