"""Reckonings made anew without quotients, with a paper that shows it."""

from undivide.forms import LETTER, fractions_of
from undivide.fractions import ONE
from undivide.marks import last_form, rules_of
from undivide.newrows import NewRows


def group_row(made, size, products):
    """A pair (is added, row) of products that all have a fraction of one size, with it."""
    turned = not any([is_added for is_added, product in products])
    told = made.sum_row([(is_added or turned, made.product_row(product)) for is_added, product in products])
    if size != ONE:
        told = made.add_new(("times", made.shared(("number", size)), told))
    return (not turned, told)


def form_row(made, form):
    """The number of a row that has a form."""
    signed = []
    groups = {}
    for product, f in fractions_of(form):
        if product == ():
            signed.append((True, made.shared(("number", f))))
        else:
            groups.setdefault((abs(f[0]), f[1]), []).append((f[0] > 0, product))
    for size, products in groups.items():
        signed.append(group_row(made, size, products))
    return made.sum_row(signed)


def needed_marks(told):
    """The marks that the last form rests on, sorted, so that each stands behind those of its rule."""
    needed = {}
    waiting = [last_form(told)]
    while waiting:
        form = waiting.pop()
        for product in form.numbers:
            for mark in product:
                if mark[0] != LETTER and mark not in needed:
                    needed[mark] = True
                    waiting.append(told.rules[mark[0]][mark[1]])
    return sorted(needed)


def undivided(reckoning, point, most):
    """A tuple (reckoning, paper) of one without quotients; refused with NoOver as the run at the point is."""
    told = rules_of(reckoning, point, most)
    made = NewRows()
    for mark in needed_marks(told):
        row = made.apart(form_row(made, told.rules[mark[0]][mark[1]]))
        made.paper[row] = mark
        made.mark_places[mark] = row
    # This ends with the row that it tells: a new one, the only one, or that of the last mark, which is alone in it.
    form_row(made, last_form(told))
    return ((reckoning[0], tuple(made.rows)), tuple(made.paper))
