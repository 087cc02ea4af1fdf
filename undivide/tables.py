"""Tables: tuples (letters, rows) of entries, as many rows as columns, and their signed sums of products."""

from undivide.forms import form_sum, fractions_of, number_by_powers
from undivide.fractions import NOUGHT, ONE
from undivide.webs import by_letter


def signed_sum(table):
    """The polynomial of a table: over all orders of its columns the products of entries, less those of odd ones."""
    letters, rows = table
    many = len(letters)
    nought = number_by_powers(NOUGHT, many)
    # By the columns that the rows ahead have taken: in whatever order, what comes behind is the same.
    ahead = {(): number_by_powers(ONE, many)}
    for row in rows:
        behind = {}
        for taken, form in ahead.items():
            for column, (f, letter) in enumerate(row):
                if column not in taken and f != NOUGHT:
                    is_odd = len([other for other in taken if other > column]) & 1
                    signed = (-f[0], f[1]) if is_odd else f
                    both = tuple(sorted(taken + (column,)))
                    behind[both] = form_sum(behind.get(both, nought), by_letter(form, letter, many), signed)
        ahead = behind
    return tuple(fractions_of(ahead.get(tuple(range(len(rows))), nought)))


def table_of(web):
    """A table, of one row fewer than a web has dots, whose signed sum of products is what the web stands for."""
    letters, dots, ways = web
    entries = {(start, end): entry for start, end, entry in ways}
    # An order without noughts takes the ways of a walk and, for each dot that this doesn't come by, its -1: there are
    # so many of these that whatever the order's sign is, they turn it back.
    for dot in range(1, dots - 1):
        entries[(dot, dot)] = ((-1, 1), None)
    rows = []
    for start in range(dots - 1):
        rows.append(tuple([entries.get((start, end), (NOUGHT, None)) for end in range(1, dots)]))
    return (letters, tuple(rows))
