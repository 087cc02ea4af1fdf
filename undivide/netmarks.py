"""The marks of a net's nodes and shares, how rules read them, and their rules by borders.

The mark of node u is (u,), that of v's share in u is (u, v).
"""

from undivide.forms import LETTER, form_plus, form_sum, form_times, mark_form, number_form
from undivide.fractions import NOUGHT, ONE
from undivide.nets import degrees
from undivide.shares import border


class NetRules:
    """A net's nodes with their degrees and how rules read them; shares, borders and rules once they are asked for.

    Shares are a dict by nodes v, of lists of how v's share in each node is read, or None where it is plain nought.
    """

    def __init__(self, net):
        self.net = net
        self.nodes = net[1]
        self.reached = degrees(net)
        self.readings = node_readings(self.nodes, self.reached)
        self.shares = {}
        self.borders = {}
        self.rules = {}


def mixed_reading(pairs, readings):
    """The sum of a mix's parts, each with its fraction, by their readings; those of plain nought are left out."""
    told = number_form(NOUGHT)
    for f, part in pairs:
        if readings[part] is not None:
            told = form_sum(told, readings[part], f)
    return told


def node_readings(nodes, reached):
    """How each node is read in rules: one of degree 1 as its sum of letters, any other one as its mark."""
    readings = []
    for u, node in enumerate(nodes):
        if node[0] == "letter":
            readings.append(mark_form((LETTER, node[1])))
        elif reached[u] == 1:
            readings.append(mixed_reading(node[1], readings))
        else:
            readings.append(mark_form((u,)))
    return readings


def is_plain_nought(node, readings):
    """Whether a share in a node, another one than its own, is plain nought, by the readings in nodes ahead."""
    if node[0] == "mix":
        return all([readings[part] is None for f, part in node[1]])
    return node[0] == "letter" or readings[node[1]] is None


def share_reading(told, u, v, ahead):
    """How v's share in u is read, by the readings of v's shares in nodes ahead; None where it is plain nought."""
    node = told.nodes[u]
    if u == v:
        return number_form(ONE)
    if is_plain_nought(node, ahead):
        return None
    if told.reached[u] - told.reached[v] > 1:
        return mark_form((u, v))
    if node[0] == "mix":
        return mixed_reading(node[1], ahead)
    return form_times(ahead[node[1]], told.readings[node[2]])


def share_at(told, u, v):
    """How v's share in u is read in rules, or None where it is plain nought."""
    if v not in told.shares:
        readings = []
        for at in range(len(told.nodes)):
            readings.append(share_reading(told, at, v, readings))
        told.shares[v] = readings
    return told.shares[v][u]


def border_at(told, m):
    """The border of m, a list of nodes."""
    if m not in told.borders:
        told.borders[m] = border(told.net, m)
    return told.borders[m]


def rule_terms(told, mark, m):
    """A list of what the rule of a mark by m adds up: three readings each time, to be multiplied."""
    terms = []
    for t in border_at(told, m):
        one, other = told.nodes[t][1], told.nodes[t][2]
        first = told.readings[one] if len(mark) == 1 else share_at(told, one, mark[1])
        last = share_at(told, mark[0], t)
        if first is not None and last is not None:
            terms.append((first, told.readings[other], last))
    return terms


def rule_by(told, mark, m):
    """The rule of a mark by m, a form."""
    if (mark, m) not in told.rules:
        rule = number_form(NOUGHT)
        for first, second, last in rule_terms(told, mark, m):
            rule = form_plus(rule, form_times(form_times(first, second), last))
        told.rules[(mark, m)] = rule
    return told.rules[(mark, m)]


def mark_degrees(told, mark):
    """The degree of a mark's node, and of the one whose share it is; 0 where it is the node itself."""
    return told.reached[mark[0]], (told.reached[mark[1]] if len(mark) == 2 else 0)


def out_readings(told):
    """A list of how the outs that are there are read."""
    outs = told.net[2][1]
    return [told.readings[out] for out in outs if out is not None]
