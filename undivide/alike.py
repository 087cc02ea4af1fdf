"""Two reckonings held against one another: whether they are alike, where they part, at how many points they don't."""

from undivide.errors import NotPolynomial, OtherLetters
from undivide.polys import degree, number_raised, over_common, poly_less
from undivide.quotients import polynomial_of, whole_points


def both_polynomials(one, other):
    """A list of what two reckonings come to; refused are other letters, then the first one, then the second."""
    if one[0] != other[0]:
        raise OtherLetters()
    told = []
    for which, reckoning in enumerate((one, other)):
        told.append(polynomial_of(reckoning))
        if told[which] is None:
            raise NotPolynomial(which)
    return told


def first_set(numbers, k):
    """Whole numbers by powers with the number k in the first letter's place."""
    sums = {}
    for powers, many in numbers.items():
        rest = powers[1:]
        sums[rest] = sums.get(rest, 0) + many * number_raised(k, powers[0])
    return sums


def first_apart(difference, many_letters):
    """The first point of whole numbers from 0 on at which a polynomial that isn't nought has another value."""
    pairs, common = over_common(difference)
    greatest = 0
    while True:
        for point in whole_points(many_letters, greatest):
            numbers = dict(pairs)
            for place in point:
                numbers = first_set(numbers, place[0])
            if numbers[()] != 0:
                return point
        greatest += 1


def parted(one, other):
    """A tuple ("alike", polynomial) or ("part", point) of two reckonings."""
    first, second = both_polynomials(one, other)
    if first == second:
        return ("alike", first)
    return ("part", first_apart(poly_less(first, second), len(one[0])))


def many_noughts(difference, many_letters, size):
    """At how many points of whole numbers from 0 to one less than size a polynomial is nought."""
    pairs, common = over_common(difference)
    # Letter by letter, so that a polynomial of many products is gone through for few of the points.
    left = [dict(pairs)]
    for letter in range(many_letters):
        left = [first_set(numbers, k) for numbers in left for k in range(size)]
    return len([numbers for numbers in left if numbers[()] == 0])


def failing(one, other, size):
    """A pair: at how many points of a grid two reckonings have the same value, and how many that may be at most."""
    first, second = both_polynomials(one, other)
    many_letters = len(one[0])
    if first == second:
        points = number_raised(size, many_letters)
        return (points, points)
    difference = poly_less(first, second)
    bound = degree(difference) * number_raised(size, many_letters - 1)
    return (many_noughts(difference, many_letters, size), bound)
