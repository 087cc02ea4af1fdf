"""Fractions: tuples (n, d) of whole numbers in lowest terms, d from 1 on."""

from undivide.errors import BadText

NOUGHT = (0, 1)
ONE = (1, 1)


def is_number(thing):
    """Whether a thing is a whole number; truths are none."""
    return isinstance(thing, int) and not isinstance(thing, bool)


def common_factor(one, other):
    """The greatest common factor of two numbers from 0 on; that of 0 and a number is the number."""
    while other:
        one, other = other, one % other
    return one


def is_fraction(thing):
    """Whether a thing is a fraction in lowest terms."""
    if not isinstance(thing, tuple) or len(thing) != 2:
        return False
    above, beneath = thing
    if not is_number(above) or not is_number(beneath):
        return False
    return beneath >= 1 and common_factor(abs(above), beneath) == 1


def fraction(n, d):
    """The fraction n over d in lowest terms; d is not 0."""
    if d < 0:
        n, d = -n, -d
    factor = common_factor(abs(n), d)
    return (n // factor, d // factor)


def added(one, above, beneath):
    """The sum of a fraction and of another one in two numbers."""
    # Common factors of the parts are looked for ahead of the sum, where numbers are smaller.
    factor = common_factor(one[1], beneath)
    total = one[0] * (beneath // factor) + above * (one[1] // factor)
    left = common_factor(abs(total), factor)
    return (total // left, one[1] // factor * (beneath // left))


def plus(one, other):
    """The sum of two fractions."""
    return added(one, other[0], other[1])


def less(one, other):
    """The first fraction less the second."""
    return added(one, -other[0], other[1])


def times(one, other):
    """The product of two fractions."""
    # Neither has a common factor of its own, so each one's above is held against the other's beneath.
    first = common_factor(abs(one[0]), other[1])
    second = common_factor(abs(other[0]), one[1])
    return (one[0] // first * (other[0] // second), one[1] // second * (other[1] // first))


def over(one, other):
    """The first fraction divided by the second, which is not nought."""
    if other[0] < 0:
        return times(one, (-other[1], -other[0]))
    return times(one, (other[1], other[0]))


def fraction_text(f):
    """The text of a fraction: what is beneath is left out where it is 1."""
    above, beneath = f
    if beneath == 1:
        return str(above)
    return f"{above}/{beneath}"


def are_figures(text):
    """Whether a text is one or more of the figures 0 to 9."""
    return text.isascii() and text.isdigit()


def read_fraction(text):
    """The fraction that has this text; any other text is refused with BadText."""
    above, slash, beneath = text.partition("/")
    if slash == "":
        beneath = "1"
    if not are_figures(above.removeprefix("-")) or not are_figures(beneath) or int(beneath) == 0:
        raise BadText(0)
    told = fraction(int(above), int(beneath))
    # A fraction has one text only, so noughts ahead, -0, 4/2 and 1/1 don't come back as they were.
    if fraction_text(told) != text:
        raise BadText(0)
    return told
