"""The shares of nodes in nodes of a net, and the borders of degrees."""

from undivide.forms import fractions_of, number_by_powers, times_by_powers
from undivide.fractions import NOUGHT, ONE
from undivide.nets import degrees, mix_form, node_forms


def share(net, u, v):
    """The share of node v in node u, a polynomial; v's degree is not above u's."""
    letters, nodes, top = net
    forms = node_forms(net)
    nought = number_by_powers(NOUGHT, len(letters))
    # A node rests on nodes ahead alone, so nothing ahead of v has a share of it.
    shares = [nought] * v + [number_by_powers(ONE, len(letters))]
    for node in nodes[v + 1:u + 1]:
        if node[0] == "letter":
            shares.append(nought)
        elif node[0] == "mix":
            shares.append(mix_form(node[1], shares, len(letters)))
        else:
            shares.append(times_by_powers(shares[node[1]], forms[node[2]]))
    return tuple(fractions_of(shares[u]))


def border(net, m):
    """A rising list of the nodes times whose degree is above m, but not that of their first part."""
    reached = degrees(net)
    return [at for at, node in enumerate(net[1]) if node[0] == "times" and reached[node[1]] <= m < reached[at]]
