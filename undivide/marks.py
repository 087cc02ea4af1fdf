"""The marks of a reckoning's rows at a good point, their rules, and which of them are plain nought."""

from undivide.forms import LETTER, form_less, form_plus, form_times, mark_form, number_form
from undivide.fractions import NOUGHT, ONE, over
from undivide.running import run


class Rules:
    """For each row a list of its marks' rules, and a list of how its marks are read in rules.

    Both are lists of forms, by k from 0 to most; the 0-th of both is the row's value.
    """

    def __init__(self, rules, readings):
        self.rules = rules
        self.readings = readings


def letter_rule(letter, k, point):
    """The rule of the mark (i, k) of a letter's row."""
    if k > 1:
        return number_form(NOUGHT)
    return form_less(mark_form((LETTER, letter)), number_form(point[letter]))


def times_rule(one, other, k):
    """The k-th rule of a product, by its parts' readings."""
    told = number_form(NOUGHT)
    for e in range(k + 1):
        told = form_plus(told, form_times(one[e], other[k - e]))
    return told


def over_rule(one, other, own, k):
    """The k-th rule of a quotient, by its parts' readings and its own ahead, not divided yet."""
    told = one[k]
    for e in range(1, k + 1):
        told = form_less(told, form_times(other[e], own[k - e]))
    return told


def rule_of(row, k, readings, point, values):
    """The rule of the mark (i, k), i being the last row of which there are readings, as far as they go."""
    word = row[0]
    if word == "number":
        return number_form(NOUGHT)
    if word == "letter":
        return letter_rule(row[1], k, point)
    one, other = readings[row[1]], readings[row[2]]
    if word == "plus":
        return form_plus(one[k], other[k])
    if word == "less":
        return form_less(one[k], other[k])
    if word == "times":
        return times_rule(one, other, k)
    part = number_form(over(ONE, values[row[2]]))
    return form_times(over_rule(one, other, readings[-1], k), part)


def read_mark(row, mark, rule):
    """How a mark is read in rules: a letter's by its rule, plain nought not at all, else as itself."""
    if row[0] == "letter" or not rule.numbers:
        return rule
    return mark_form(mark)


def rules_of(reckoning, point, most):
    """The rules of a reckoning's marks; refused with NoOver as the run at the point is."""
    values = run(reckoning, point)
    rules = []
    readings = []
    for at, row in enumerate(reckoning[1]):
        rules.append([number_form(values[at])])
        readings.append([number_form(values[at])])
        for k in range(1, most + 1):
            rule = rule_of(row, k, readings, point, values)
            rules[at].append(rule)
            readings[at].append(read_mark(row, (at, k), rule))
    return Rules(rules, readings)


def last_form(told):
    """The form that a reckoning's rules ask for at the end: the last row's value and marks, added."""
    whole = number_form(NOUGHT)
    for form in told.readings[-1]:
        whole = form_plus(whole, form)
    return whole


def is_nought(reckoning, point, most, mark):
    """Whether a mark that is there is plain nought; refused with NoOver as the run at the point is."""
    at, k = mark
    return not rules_of(reckoning, point, most).rules[at][k].numbers
