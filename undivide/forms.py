"""Forms: sums, with fractions, of products of marks.

A mark is a tuple of whole numbers: (LETTER, k) that of the letter numbered k, any other one a paper's own.
A product is the tuple of its marks, sorted; () is that of none, so that a number is a form, too.
Where there are letters alone a product may as well be told by its powers, as in polynomials.
"""

from undivide.fractions import ONE, common_factor, fraction
from undivide.polys import powers_plus

LETTER = -1
ROOM = 256


class Form:
    """Whole numbers, none of them nought, by products, all of them over one number from 1 on.

    They may have a common factor with what they are over: it is taken out where that has more than room bits.
    """

    def __init__(self, numbers, beneath, room):
        self.numbers = numbers
        self.beneath = beneath
        self.room = room


def settled(numbers, beneath, room):
    """The form of whole numbers, perhaps noughts, over a number."""
    kept = {product: many for product, many in numbers.items() if many != 0}
    # Left in for good, factors could double the number beneath from row to row; looked for at each row, great
    # numbers would take too long. So they are taken out whenever the number has twice the bits it had then.
    if kept and beneath.bit_length() <= room:
        return Form(kept, beneath, room)
    factor = beneath
    for many in kept.values():
        factor = common_factor(factor, abs(many))
    lowest = {product: many // factor for product, many in kept.items()}
    beneath = beneath // factor
    return Form(lowest, beneath, max(ROOM, 2 * beneath.bit_length()))


def number_form(f):
    """A fraction as a form."""
    return settled({(): f[0]}, f[1], ROOM)


def mark_form(mark):
    """A mark as a form."""
    return Form({(mark,): 1}, 1, ROOM)


def form_sum(one, other, f):
    """The first form and the second one times a fraction, added."""
    beneath = other.beneath * f[1]
    factor = common_factor(one.beneath, beneath)
    first = beneath // factor
    second = one.beneath // factor * f[0]
    sums = {product: many * first for product, many in one.numbers.items()}
    for product, many in other.numbers.items():
        sums[product] = sums.get(product, 0) + many * second
    return settled(sums, one.beneath * first, max(one.room, other.room))


def form_plus(one, other):
    """The sum of two forms."""
    return form_sum(one, other, ONE)


def form_less(one, other):
    """The first form less the second."""
    return form_sum(one, other, (-1, 1))


def form_times(one, other):
    """The product of two forms by marks."""
    sums = {}
    for product, many in one.numbers.items():
        for others, more in other.numbers.items():
            both = tuple(sorted(product + others))
            sums[both] = sums.get(both, 0) + many * more
    return settled(sums, one.beneath * other.beneath, max(one.room, other.room))


def number_by_powers(f, many_letters):
    """A fraction as a form by powers."""
    return settled({(0,) * many_letters: f[0]}, f[1], ROOM)


def letter_by_powers(k, many_letters):
    """The letter numbered k as a form by powers."""
    return Form({(0,) * k + (1,) + (0,) * (many_letters - k - 1): 1}, 1, ROOM)


def times_by_powers(one, other):
    """The product of two forms by powers."""
    sums = {}
    for powers, many in one.numbers.items():
        for others, more in other.numbers.items():
            both = powers_plus(powers, others)
            sums[both] = sums.get(both, 0) + many * more
    return settled(sums, one.beneath * other.beneath, max(one.room, other.room))


def same_forms(one, other):
    """Whether two forms have the same products with the same fractions."""
    if len(one.numbers) != len(other.numbers):
        return False
    for product, many in one.numbers.items():
        if many * other.beneath != other.numbers.get(product, 0) * one.beneath:
            return False
    return True


def fractions_of(form):
    """A list of a form's pairs (product, fraction), sorted."""
    return sorted([(product, fraction(many, form.beneath)) for product, many in form.numbers.items()])


def most_marks(form):
    """How many marks a form's longest product has; 0 where it has no product."""
    return max([len(product) for product in form.numbers], default=0)
