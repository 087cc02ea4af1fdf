"""The checker of papers of nets: whether a reckoning comes to what a net stands for."""

from undivide.errors import NoPaper
from undivide.forms import form_plus, number_form, same_forms
from undivide.netmarks import NetRules, mark_degrees, out_readings, rule_by, share_at
from undivide.reckonings import is_place
from undivide.walks import form_at, look_last, look_size, tell_mark, walk_begun

# How many products a form may have, and how many marks each of them.
LIMITS = (300, 6)


def is_told(told, entry):
    """Whether a paper's entry tells a mark by an m as it should be, and one that is no plain nought."""
    mark, m = entry[:-1], entry[-1]
    if not 1 <= len(mark) <= 2 or not all([is_place(node, len(told.nodes)) for node in mark]):
        return False
    high, low = mark_degrees(told, mark)
    if high - low < 2 or not max(low, 1) <= m < high:
        return False
    return len(mark) == 1 or share_at(told, mark[0], mark[1]) is not None


def net_form(told):
    """The form that a net's paper asks for at the end: its fraction and its outs, added."""
    whole = number_form(told.net[2][0])
    for form in out_readings(told):
        whole = form_plus(whole, form)
    return whole


def is_rule(told, entry, form):
    """Whether a paper's entry may stand where it does, beside a row of this form."""
    return is_told(told, entry) and same_forms(rule_by(told, entry[:-1], entry[-1]), form)


def shallow_holds(net, reckoning, paper):
    """True of a paper that shows that a reckoning comes to what a net stands for, else refused with NoPaper."""
    told = NetRules(net)
    walk = walk_begun(net[0], reckoning, paper, LIMITS)
    for at, entry in enumerate(paper):
        look_size(walk, at)
        if entry is not None:
            if not is_rule(told, entry, form_at(walk, at)):
                raise NoPaper(at)
            tell_mark(walk, at, entry[:-1])
    return look_last(walk, net_form(told))
