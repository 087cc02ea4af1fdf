"""Reckonings run on quotients of polynomials, and the points at which nothing is divided by nought."""

from undivide.errors import NoOver
from undivide.forms import form_less, form_plus, fractions_of, letter_by_powers, number_by_powers, times_by_powers
from undivide.fractions import ONE
from undivide.polys import gathered, parted_by, poly_less, poly_plus, poly_times
from undivide.reckonings import is_whole, pruned
from undivide.running import run


def number_poly(f, many_letters):
    """A fraction as a polynomial."""
    return gathered([((0,) * many_letters, f)])


def letter_poly(k, many_letters):
    """The letter numbered k as a polynomial."""
    return (((0,) * k + (1,) + (0,) * (many_letters - k - 1), (1, 1)),)


def made_quotient(word, one, other):
    """The pair (above, beneath) of a row by its word and its parts' pairs."""
    above, beneath = one
    other_above, other_beneath = other
    if word == "times":
        return (poly_times(above, other_above), poly_times(beneath, other_beneath))
    if word == "over":
        return (poly_times(above, other_beneath), poly_times(beneath, other_above))
    first = poly_times(above, other_beneath)
    second = poly_times(other_above, beneath)
    both = poly_plus(first, second) if word == "plus" else poly_less(first, second)
    return (both, poly_times(beneath, other_beneath))


def quotients(reckoning):
    """A list of all rows' pairs (above, beneath); refused with NoOver at the first row over nought."""
    letters, rows = reckoning
    one = number_poly(ONE, len(letters))
    told = []
    for at, row in enumerate(rows):
        word = row[0]
        if word == "number":
            told.append((number_poly(row[1], len(letters)), one))
        elif word == "letter":
            told.append((letter_poly(row[1], len(letters)), one))
        elif word == "over" and told[row[2]][0] == ():
            raise NoOver(at)
        else:
            told.append(made_quotient(word, told[row[1]], told[row[2]]))
    return told


def whole_form(row, forms, many_letters):
    """The form by powers of a row that is no over, by those of the rows ahead."""
    word, one = row[0], row[1]
    if word == "number":
        return number_by_powers(one, many_letters)
    if word == "letter":
        return letter_by_powers(one, many_letters)
    if word == "plus":
        return form_plus(forms[one], forms[row[2]])
    if word == "less":
        return form_less(forms[one], forms[row[2]])
    return times_by_powers(forms[one], forms[row[2]])


def whole_polynomial(reckoning):
    """The polynomial that a reckoning without quotients comes to."""
    letters, rows = pruned(reckoning)
    # Such reckonings may have thousands of rows: forms spare them all but the last row's lowest terms.
    forms = []
    for row in rows:
        forms.append(whole_form(row, forms, len(letters)))
    return tuple(fractions_of(forms[-1]))


def polynomial_of(reckoning):
    """The polynomial that a reckoning comes to, or None where it comes to none."""
    if is_whole(reckoning):
        return whole_polynomial(reckoning)
    above, beneath = quotients(reckoning)[-1]
    return parted_by(above, beneath)


def whole_points(many_letters, greatest):
    """The points of whole numbers from 0 on whose greatest is this one, as Python sorts them."""
    places = [()]
    for at in range(many_letters):
        places = [place + (k,) for place in places for k in range(greatest + 1)]
    return [tuple([(k, 1) for k in place]) for place in places if max(place) == greatest]


def runs_at(reckoning, point):
    """Whether a reckoning runs at a point without being refused."""
    try:
        run(reckoning, point)
    except NoOver:
        return False
    return True


def good_point(reckoning):
    """The first point of whole numbers from 0 on at which a reckoning runs; refused where none can be."""
    # One that isn't good runs nowhere, so it is to be refused ahead of the search.
    if not is_whole(reckoning):
        quotients(reckoning)
    greatest = 0
    while True:
        for point in whole_points(len(reckoning[0]), greatest):
            if runs_at(reckoning, point):
                return point
        greatest += 1
