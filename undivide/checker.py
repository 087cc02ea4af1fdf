"""The checker of papers: whether a new reckoning without quotients comes to the same as an old one."""

from undivide.errors import NoPaper
from undivide.forms import same_forms
from undivide.marks import last_form, rules_of
from undivide.reckonings import is_place
from undivide.walks import form_at, look_last, look_size, tell_mark, walk_begun

# How many products a form may have, and how many marks each of them.
LIMITS = (80, 4)


def is_rule(told, mark, form):
    """Whether a mark is there and read as itself, so neither plain nought nor a letter's, with this rule."""
    at, k = mark
    if not is_place(at, len(told.rules)) or not is_place(k, len(told.rules[at])):
        return False
    return (mark,) in told.readings[at][k].numbers and same_forms(told.rules[at][k], form)


def holds(reckoning, point, most, new, paper):
    """True of a paper that shows it, else refused with NoPaper; with NoOver first as the run at the point is."""
    told = rules_of(reckoning, point, most)
    walk = walk_begun(reckoning[0], new, paper, LIMITS)
    for at, mark in enumerate(paper):
        look_size(walk, at)
        if mark is not None:
            if not is_rule(told, mark, form_at(walk, at)):
                raise NoPaper(at)
            tell_mark(walk, at, mark)
    return look_last(walk, last_form(told))
