"""Papers walked row by row: the forms of a new reckoning's rows, as far as they are asked for, and their sizes."""

from undivide.errors import NoPaper
from undivide.forms import LETTER, form_less, form_plus, form_times, mark_form, most_marks, number_form, same_forms
from undivide.reckonings import parts_of


class Walk:
    """A new reckoning's rows as far as they are looked at, each with its form or None, and with its size.

    A size is a pair: how many products a form has at most, and how many marks each of them; limits is the greatest.
    """

    def __init__(self, rows, limits):
        self.rows = rows
        self.limits = limits
        self.forms = []
        self.sizes = []


def row_size(row, sizes):
    """The size that a row's form has at most, whatever falls away in it."""
    if row[0] == "number":
        return (1, 0)
    if row[0] == "letter":
        return (1, 1)
    one, other = sizes[row[1]], sizes[row[2]]
    if row[0] == "times":
        return (one[0] * other[0], one[1] + other[1])
    return (one[0] + other[0], max(one[1], other[1]))


def row_form(row, forms):
    """A row's form by the forms of the rows ahead."""
    word, one = row[0], row[1]
    if word == "number":
        return number_form(one)
    if word == "letter":
        return mark_form((LETTER, one))
    if word == "plus":
        return form_plus(forms[one], forms[row[2]])
    if word == "less":
        return form_less(forms[one], forms[row[2]])
    return form_times(forms[one], forms[row[2]])


def unmade_rows(walk, at):
    """The row numbered at and those without a form that it rests on, sorted."""
    found = {at: True}
    waiting = [at]
    while waiting:
        row = walk.rows[waiting.pop()]
        for part in parts_of(row):
            if part not in found and walk.forms[part] is None:
                found[part] = True
                waiting.append(part)
    return sorted(found)


def form_at(walk, at):
    """The form of a row; where it isn't made yet, it and all that it rests on are made."""
    if walk.forms[at] is None:
        for row in unmade_rows(walk, at):
            form = row_form(walk.rows[row], walk.forms)
            walk.forms[row] = form
            walk.sizes[row] = (len(form.numbers), most_marks(form))
    return walk.forms[at]


def is_small(walk, at):
    """Whether the size of a row's form, as far as it is known, is let by."""
    size = walk.sizes[at]
    return size[0] <= walk.limits[0] and size[1] <= walk.limits[1]


def walk_begun(letters, new, paper, limits):
    """The walk of a new reckoning; other letters and a paper of another length are refused with NoPaper."""
    new_letters, rows = new
    if new_letters != letters or len(paper) != len(rows):
        raise NoPaper(0)
    return Walk(rows, limits)


def look_size(walk, at):
    """Looks at the next row, but for its mark; refused with NoPaper where it is an over or its form too great."""
    row = walk.rows[at]
    if row[0] == "over":
        raise NoPaper(at)
    walk.forms.append(None)
    walk.sizes.append(row_size(row, walk.sizes))
    # Numbers in forms can be without measure: a form is made only where it is asked for, not of each row.
    if not is_small(walk, at):
        form_at(walk, at)
    if not is_small(walk, at):
        raise NoPaper(at)


def tell_mark(walk, at, mark):
    """Gives a row, behind its look, the form of a mark alone."""
    walk.forms[at] = mark_form(mark)
    walk.sizes[at] = (1, 1)


def look_last(walk, form):
    """True where the last row has this form, else refused with NoPaper."""
    many = len(walk.rows)
    if not same_forms(form_at(walk, many - 1), form):
        raise NoPaper(many)
    return True
