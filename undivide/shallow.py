"""Reckonings of nets with few rows one behind another, with a paper that shows it."""

from undivide.forms import LETTER, fractions_of, number_form, same_forms
from undivide.fractions import NOUGHT, ONE
from undivide.netmarks import NetRules, mark_degrees, out_readings, rule_terms
from undivide.newrows import NewRows


def halvings(many):
    """The least number from 0 on so that 2 to its power is not less than many."""
    told = 0
    reached = 1
    while reached < many:
        reached = 2 * reached
        told += 1
    return told


def greatest_out(net):
    """The greatest degree of an out that is there, 0 of none."""
    outs = net[2][1]
    return max([k for k, out in enumerate(outs, start=1) if out is not None], default=0)


def many_times(net):
    """How many nodes times a net has."""
    return len([node for node in net[1] if node[0] == "times"])


def depth_told(net):
    """The depth that what is told of a net has at most."""
    high = greatest_out(net)
    step = 4 + 2 * halvings(many_times(net))
    return 1 + halvings(len(net[0])) + halvings(high) * step + halvings(high + 1)


def rows_told(net):
    """How many rows what is told of a net has at most."""
    letters, nodes, top = net
    many = len(nodes)
    each = 4 * many_times(net) + 3 * len(letters) + 2
    return (many + many * many) * each + len(letters) + greatest_out(net) + 4


def middle(told, mark):
    """The m by which a mark's rule is made of marks of half its degree."""
    high, low = mark_degrees(told, mark)
    return (high + low) // 2


def marks_in(form):
    """A list of the marks in a form but the letters'."""
    return [mark for product in form.numbers for mark in product if mark[0] != LETTER]


def needed_marks(told):
    """The marks that the outs rest on, so sorted that each stands behind those of its rule."""
    needed = {}
    waiting = out_readings(told)
    while waiting:
        for mark in marks_in(waiting.pop()):
            if mark not in needed:
                # A share of some degree rests on nodes of this degree, too, so that these go ahead of it.
                high, low = mark_degrees(told, mark)
                needed[mark] = (high - low, len(mark), mark)
                for term in rule_terms(told, mark, middle(told, mark)):
                    waiting.extend(term)
    return [mark for degree, nodes, mark in sorted(needed.values())]


def pair_row(made, product, f):
    """The number of a row whose form is a number, or one mark with a fraction."""
    if product == ():
        return made.shared(("number", f))
    row = made.mark_row(product[0])
    return row if f == ONE else made.add_new(("times", made.shared(("number", f)), row))


def reading_row(made, known, form):
    """The number of a row whose form is a reading; known keeps those that are there."""
    pairs = tuple(fractions_of(form))
    if pairs not in known:
        parts = [pair_row(made, product, f) for product, f in pairs]
        known[pairs] = made.balanced_row(parts) if parts else made.shared(("number", NOUGHT))
    return known[pairs]


def term_row(made, known, term):
    """The number of a row whose form is what a rule's term comes to."""
    factors = [form for form in term if not same_forms(form, number_form(ONE))]
    told = reading_row(made, known, factors[0])
    for form in factors[1:]:
        told = made.add_new(("times", told, reading_row(made, known, form)))
    return told


def shallow(net):
    """A tuple (reckoning, paper) of one that comes to what a net stands for, no deeper than told."""
    told = NetRules(net)
    made = NewRows()
    known = {}
    for mark in needed_marks(told):
        m = middle(told, mark)
        # There is a term at least: what a mark that isn't plain nought is made of lies on both sides of the border.
        terms = [term_row(made, known, term) for term in rule_terms(told, mark, m)]
        row = made.apart(made.balanced_row(terms))
        made.paper[row] = mark + (m,)
        made.mark_places[mark] = row
    outs = [reading_row(made, known, form) for form in out_readings(told)]
    made.balanced_row(outs + [made.shared(("number", net[2][0]))])
    return ((net[0], tuple(made.rows)), tuple(made.paper))
