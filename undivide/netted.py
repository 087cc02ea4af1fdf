"""Nets of pieces by degrees, made of reckonings without quotients."""

from undivide.fractions import NOUGHT, ONE, less, plus, times
from undivide.reckonings import pruned


class Netting:
    """The nodes made so far and where each stands; pieces are told by them.

    A piece of degree 1 or more is a pair (fraction, node), that node with that fraction, or None of nought.
    """

    def __init__(self):
        self.nodes = []
        self.reached = []
        self.node_places = {}

    def node_of(self, node, degree):
        """The number of a node of this degree, which is made where it isn't there yet."""
        if node not in self.node_places:
            self.node_places[node] = len(self.nodes)
            self.nodes.append(node)
            self.reached.append(degree)
        return self.node_places[node]

    def product_piece(self, one, other):
        """The product of two pieces that aren't nought."""
        first, second = one[1], other[1]
        # Which one goes first is told by degrees, and for like ones by numbers, so that both ways are one node.
        if (self.reached[first], first) < (self.reached[second], second):
            first, second = second, first
        both = self.reached[first] + self.reached[second]
        return (times(one[0], other[0]), self.node_of(("times", first, second), both))

    def mixed_piece(self, pieces, degree):
        """The sum of a list of pieces of one degree."""
        sums = {}
        for piece in pieces:
            if piece is not None:
                f, node = piece
                sums[node] = plus(sums.get(node, NOUGHT), f)
        pairs = tuple(sorted([(node, f) for node, f in sums.items() if f != NOUGHT]))
        if pairs == ():
            return None
        if len(pairs) == 1:
            return (pairs[0][1], pairs[0][0])
        return (ONE, self.node_of(("mix", tuple([(f, node) for node, f in pairs])), degree))

    def out_of(self, piece, degree):
        """The number of a node that stands for a piece, or None of nought."""
        if piece is None:
            return None
        if piece[0] == ONE:
            return piece[1]
        return self.node_of(("mix", (piece,)), degree)


def scaled(piece, f):
    """A piece with a fraction, perhaps nought, for a sum."""
    return None if piece is None else (times(piece[0], f), piece[1])


def times_piece(netting, one, other, k):
    """The piece of degree k of a product of two rows, by their pieces; the 0-th ones are fractions."""
    parts = [scaled(other[k], one[0]), scaled(one[k], other[0])]
    for e in range(1, k):
        if one[e] is not None and other[k - e] is not None:
            parts.append(netting.product_piece(one[e], other[k - e]))
    return netting.mixed_piece(parts, k)


def number_of(row, pieces):
    """The piece of degree 0 of a row, a fraction."""
    word = row[0]
    if word == "number":
        return row[1]
    if word == "letter":
        return NOUGHT
    one, other = pieces[row[1]][0], pieces[row[2]][0]
    if word == "plus":
        return plus(one, other)
    return less(one, other) if word == "less" else times(one, other)


def piece_of(netting, row, pieces, k):
    """The piece of degree k, from 1 on, of a row."""
    word = row[0]
    if word == "number" or word == "letter":
        return (ONE, netting.node_of(row, 1)) if word == "letter" and k == 1 else None
    one, other = pieces[row[1]], pieces[row[2]]
    if word == "times":
        return times_piece(netting, one, other, k)
    second = other[k] if word == "plus" else scaled(other[k], (-1, 1))
    return netting.mixed_piece([one[k], second], k)


def needed_nodes(nodes, outs):
    """For each node whether an out rests on it."""
    needed = [False] * len(nodes)
    for out in outs:
        if out is not None:
            needed[out] = True
    for at in range(len(nodes) - 1, -1, -1):
        if needed[at] and nodes[at][0] == "mix":
            for f, part in nodes[at][1]:
                needed[part] = True
        elif needed[at] and nodes[at][0] == "times":
            needed[nodes[at][1]] = True
            needed[nodes[at][2]] = True
    return needed


def renumbered(node, places):
    """A node with its parts' new numbers."""
    if node[0] == "mix":
        return ("mix", tuple([(f, places[part]) for f, part in node[1]]))
    if node[0] == "times":
        return ("times", places[node[1]], places[node[2]])
    return node


def net_of(reckoning, most):
    """A net whose outs are the pieces, up to degree most, of what a reckoning without quotients comes to."""
    letters, rows = pruned(reckoning)
    netting = Netting()
    pieces = []
    for row in rows:
        own = [number_of(row, pieces)]
        for k in range(1, most + 1):
            own.append(piece_of(netting, row, pieces, k))
        pieces.append(own)
    outs = [netting.out_of(pieces[-1][k], k) for k in range(1, most + 1)]
    needed = needed_nodes(netting.nodes, outs)
    places = {}
    kept = []
    for at, node in enumerate(netting.nodes):
        if needed[at]:
            places[at] = len(kept)
            kept.append(renumbered(node, places))
    tops = tuple([None if out is None else places[out] for out in outs])
    return (letters, tuple(kept), (pieces[-1][0], tops))
