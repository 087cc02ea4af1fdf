"""The checker of papers: whether a new reckoning without quotients comes to the same as an old one."""

from undivide.errors import NoPaper
from undivide.forms import LETTER, form_less, form_plus, form_times, mark_form, most_marks, number_form, same_forms
from undivide.marks import last_form, rules_of
from undivide.reckonings import is_place, parts_of

MOST_PRODUCTS = 80
MOST_MARKS = 4


class Walk:
    """A new reckoning's rows as far as they are looked at, each with its form or None, and with its size.

    A size is a pair: how many products a form has at most, and how many marks each of them.
    """

    def __init__(self, rows):
        self.rows = rows
        self.forms = []
        self.sizes = []


def row_size(row, sizes):
    """The size that a row's form has at most, whatever falls away in it."""
    if row[0] == "number":
        return (1, 0)
    if row[0] == "letter":
        return (1, 1)
    one, other = sizes[row[1]], sizes[row[2]]
    if row[0] == "times":
        return (one[0] * other[0], one[1] + other[1])
    return (one[0] + other[0], max(one[1], other[1]))


def is_small(size):
    """Whether a form of this size is let by."""
    return size[0] <= MOST_PRODUCTS and size[1] <= MOST_MARKS


def row_form(row, forms):
    """A row's form by the forms of the rows ahead."""
    word, one = row[0], row[1]
    if word == "number":
        return number_form(one)
    if word == "letter":
        return mark_form((LETTER, one))
    if word == "plus":
        return form_plus(forms[one], forms[row[2]])
    if word == "less":
        return form_less(forms[one], forms[row[2]])
    return form_times(forms[one], forms[row[2]])


def unmade_rows(walk, at):
    """The row numbered at and those without a form that it rests on, sorted."""
    found = {at: True}
    waiting = [at]
    while waiting:
        row = walk.rows[waiting.pop()]
        for part in parts_of(row):
            if part not in found and walk.forms[part] is None:
                found[part] = True
                waiting.append(part)
    return sorted(found)


def form_at(walk, at):
    """The form of a row; where it isn't made yet, it and all that it rests on are made."""
    if walk.forms[at] is None:
        for row in unmade_rows(walk, at):
            form = row_form(walk.rows[row], walk.forms)
            walk.forms[row] = form
            walk.sizes[row] = (len(form.numbers), most_marks(form))
    return walk.forms[at]


def is_rule(told, mark, form):
    """Whether a mark is there and read as itself, so neither plain nought nor a letter's, with this rule."""
    at, k = mark
    if not is_place(at, len(told.rules)) or not is_place(k, len(told.rules[at])):
        return False
    return (mark,) in told.readings[at][k].numbers and same_forms(told.rules[at][k], form)


def look_row(walk, at, mark, told):
    """Looks at the next row, with the mark that the paper tells of it or None; refused with NoPaper."""
    row = walk.rows[at]
    if row[0] == "over":
        raise NoPaper(at)
    walk.forms.append(None)
    walk.sizes.append(row_size(row, walk.sizes))
    # Numbers in forms can be without measure: a form is made only where it is asked for, not of each row.
    if mark is None and is_small(walk.sizes[at]):
        return
    form = form_at(walk, at)
    if not is_small(walk.sizes[at]):
        raise NoPaper(at)
    if mark is not None:
        if not is_rule(told, mark, form):
            raise NoPaper(at)
        walk.forms[at] = mark_form(mark)
        walk.sizes[at] = (1, 1)


def holds(reckoning, point, most, new, paper):
    """True of a paper that shows it, else refused with NoPaper; with NoOver first as the run at the point is."""
    told = rules_of(reckoning, point, most)
    letters, rows = new
    if letters != reckoning[0] or len(paper) != len(rows):
        raise NoPaper(0)
    walk = Walk(rows)
    for at, mark in enumerate(paper):
        look_row(walk, at, mark, told)
    if not same_forms(form_at(walk, len(rows) - 1), last_form(told)):
        raise NoPaper(len(rows))
    return True
