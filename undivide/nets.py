"""Nets: tuples (letters, nodes, top) of pieces by degrees, each node a letter, a mix or a product."""

from undivide.errors import BadNode
from undivide.forms import form_plus, form_sum, fractions_of, letter_by_powers, number_by_powers, times_by_powers
from undivide.fractions import NOUGHT, is_fraction
from undivide.reckonings import is_place, look_letters


def mix_degree(pairs, ahead):
    """The degree of a mix by the degrees of the nodes ahead, or None where its pairs aren't as they should be."""
    if not isinstance(pairs, tuple):
        return None
    told = None
    behind = -1
    for pair in pairs:
        if not isinstance(pair, tuple) or len(pair) != 2:
            return None
        f, node = pair
        if not is_fraction(f) or f == NOUGHT or not is_place(node, len(ahead)) or node <= behind:
            return None
        if told is not None and ahead[node] != told:
            return None
        told = ahead[node]
        behind = node
    return told


def times_degree(one, other, ahead):
    """The degree of a product by the degrees of the nodes ahead, or None where its parts can't be."""
    if not is_place(one, len(ahead)) or not is_place(other, len(ahead)) or ahead[one] < ahead[other]:
        return None
    return ahead[one] + ahead[other]


def node_degree(node, ahead, many_letters):
    """The degree of a node by the degrees of those ahead, or None where it has no form of nodes."""
    if not isinstance(node, tuple) or node == ():
        return None
    if node[0] == "letter":
        return 1 if len(node) == 2 and is_place(node[1], many_letters) else None
    if node[0] == "mix":
        return mix_degree(node[1], ahead) if len(node) == 2 else None
    if node[0] == "times":
        return times_degree(node[1], node[2], ahead) if len(node) == 3 else None
    return None


def is_top(top, ahead):
    """Whether a top is a fraction and outs, the k-th of them, from 1, None or a node of degree k."""
    if not isinstance(top, tuple) or len(top) != 2:
        return False
    f, outs = top
    if not is_fraction(f) or not isinstance(outs, tuple):
        return False
    for k, out in enumerate(outs, start=1):
        if out is not None and (not is_place(out, len(ahead)) or ahead[out] != k):
            return False
    return True


def look_net(net):
    """True of a net, else refused: its letters first, then its first bad node, then its top."""
    letters, nodes, top = net
    look_letters(letters)
    if not isinstance(nodes, tuple):
        raise BadNode(0)
    ahead = []
    for at, node in enumerate(nodes):
        told = node_degree(node, ahead, len(letters))
        if told is None:
            raise BadNode(at)
        ahead.append(told)
    if not is_top(top, ahead):
        raise BadNode(len(nodes))
    return True


def degrees(net):
    """A list of all nodes' degrees."""
    letters, nodes, top = net
    told = []
    for node in nodes:
        told.append(node_degree(node, told, len(letters)))
    return told


def mix_form(pairs, forms, many_letters):
    """The sum of a mix's parts, each with its fraction, by the forms of the nodes ahead."""
    told = number_by_powers(NOUGHT, many_letters)
    for f, node in pairs:
        told = form_sum(told, forms[node], f)
    return told


def node_forms(net):
    """A list of all nodes' polynomials, as forms by powers."""
    letters, nodes, top = net
    told = []
    for node in nodes:
        if node[0] == "letter":
            told.append(letter_by_powers(node[1], len(letters)))
        elif node[0] == "mix":
            told.append(mix_form(node[1], told, len(letters)))
        else:
            told.append(times_by_powers(told[node[1]], told[node[2]]))
    return told


def net_polys(net):
    """A list of all nodes' polynomials."""
    return [tuple(fractions_of(form)) for form in node_forms(net)]


def net_poly(net):
    """The polynomial that a net stands for: its fraction and its outs, added."""
    letters, nodes, top = net
    forms = node_forms(net)
    told = number_by_powers(top[0], len(letters))
    for out in top[1]:
        if out is not None:
            told = form_plus(told, forms[out])
    return tuple(fractions_of(told))
