"""Reckonings made anew without quotients, with a paper that shows it."""

from undivide.forms import LETTER, fractions_of
from undivide.fractions import NOUGHT, ONE
from undivide.marks import last_form, rules_of


class NewRows:
    """The new reckoning's rows and paper so far, and where letters, numbers and marks stand in it."""

    def __init__(self):
        self.rows = []
        self.paper = []
        self.places = {}
        self.mark_places = {}

    def add_new(self, row):
        """Adds a row and tells its number."""
        self.rows.append(row)
        self.paper.append(None)
        return len(self.rows) - 1

    def shared(self, row):
        """The number of a letter's or a number's row, which is added where it isn't there yet."""
        if row not in self.places:
            self.places[row] = self.add_new(row)
        return self.places[row]

    def mark_row(self, mark):
        """The number of the row whose form is a mark."""
        if mark[0] == LETTER:
            return self.shared(("letter", mark[1]))
        return self.mark_places[mark]

    def product_row(self, product):
        """The number of a row whose form is a product of marks, one at least."""
        told = self.mark_row(product[0])
        for mark in product[1:]:
            told = self.add_new(("times", told, self.mark_row(mark)))
        return told

    def sum_row(self, signed):
        """The number of a row of all rows, added or taken off, of a list of pairs (is added, row)."""
        added = [row for is_added, row in signed if is_added]
        taken = [row for is_added, row in signed if not is_added]
        told = added[0] if added else self.shared(("number", NOUGHT))
        for row in added[1:]:
            told = self.add_new(("plus", told, row))
        for row in taken:
            told = self.add_new(("less", told, row))
        return told

    def apart(self, row):
        """The number of a row with this row's form that is neither shared nor told of a mark."""
        if self.paper[row] is None and self.rows[row] not in self.places:
            return row
        return self.add_new(("plus", row, self.shared(("number", NOUGHT))))


def group_row(made, size, products):
    """A pair (is added, row) of products that all have a fraction of one size, with it."""
    turned = not any([is_added for is_added, product in products])
    told = made.sum_row([(is_added or turned, made.product_row(product)) for is_added, product in products])
    if size != ONE:
        told = made.add_new(("times", made.shared(("number", size)), told))
    return (not turned, told)


def form_row(made, form):
    """The number of a row that has a form."""
    signed = []
    groups = {}
    for product, f in fractions_of(form):
        if product == ():
            signed.append((True, made.shared(("number", f))))
        else:
            groups.setdefault((abs(f[0]), f[1]), []).append((f[0] > 0, product))
    for size, products in groups.items():
        signed.append(group_row(made, size, products))
    return made.sum_row(signed)


def needed_marks(told):
    """The marks that the last form rests on, sorted, so that each stands behind those of its rule."""
    needed = {}
    waiting = [last_form(told)]
    while waiting:
        form = waiting.pop()
        for product in form.numbers:
            for mark in product:
                if mark[0] != LETTER and mark not in needed:
                    needed[mark] = True
                    waiting.append(told.rules[mark[0]][mark[1]])
    return sorted(needed)


def undivided(reckoning, point, most):
    """A tuple (reckoning, paper) of one without quotients; refused with NoOver as the run at the point is."""
    told = rules_of(reckoning, point, most)
    made = NewRows()
    for mark in needed_marks(told):
        row = made.apart(form_row(made, told.rules[mark[0]][mark[1]]))
        made.paper[row] = mark
        made.mark_places[mark] = row
    # This ends with the row that it tells: a new one, the only one, or that of the last mark, which is alone in it.
    form_row(made, last_form(told))
    return ((reckoning[0], tuple(made.rows)), tuple(made.paper))
