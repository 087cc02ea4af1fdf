"""Power rows: what each row of a reckoning comes to around a good point, piece by piece."""

from undivide.forms import form_less, form_plus, fractions_of, letter_by_powers, number_by_powers, times_by_powers
from undivide.fractions import NOUGHT, ONE, over
from undivide.running import run


def letter_row(k, point, most):
    """The power row of the letter numbered k: the point's fraction, then the letter."""
    many = len(point)
    whole = [number_by_powers(point[k], many), letter_by_powers(k, many)]
    return (whole + [number_by_powers(NOUGHT, many)] * most)[:most + 1]


def products_from(first, one, other, k):
    """The sum of all products of an i-th of the one, i from first on, and a (k - i)-th of the other."""
    told = times_by_powers(one[first], other[k - first])
    for i in range(first + 1, k + 1):
        told = form_plus(told, times_by_powers(one[i], other[k - i]))
    return told


def over_row(one, other, part):
    """The power row of a quotient, part being 1 over the divisor's 0-th."""
    told = [times_by_powers(one[0], part)]
    for k in range(1, len(one)):
        told.append(times_by_powers(form_less(one[k], products_from(1, other, told, k)), part))
    return told


def made_row(word, one, other):
    """The power row of a row that is no over, by its parts' ones."""
    if word == "plus":
        return [form_plus(first, second) for first, second in zip(one, other)]
    if word == "less":
        return [form_less(first, second) for first, second in zip(one, other)]
    return [products_from(0, one, other, k) for k in range(len(one))]


def power_rows(reckoning, point, most):
    """A list of all rows' power rows up to most; refused with NoOver as the run at the point is."""
    values = run(reckoning, point)
    many = len(point)
    told = []
    for row in reckoning[1]:
        word = row[0]
        if word == "number":
            told.append([number_by_powers(row[1], many)] + [number_by_powers(NOUGHT, many)] * most)
        elif word == "letter":
            told.append(letter_row(row[1], point, most))
        elif word == "over":
            part = number_by_powers(over(ONE, values[row[2]]), many)
            told.append(over_row(told[row[1]], told[row[2]], part))
        else:
            told.append(made_row(word, told[row[1]], told[row[2]]))
    return [[tuple(fractions_of(form)) for form in forms] for forms in told]
