"""Nets that tests are made of, and their polynomials as point 21 tells them, over dicts of Fraction."""

from fractions import Fraction

import algebra
from undivide.polys import poly

ONE, HALF = (1, 1), (1, 2)
# x, y, x + 2 y, its square, x times that, (x + 2 y) times y over 2 less the square.
NODES = (("letter", 0), ("letter", 1), ("mix", ((ONE, 0), ((2, 1), 1))), ("times", 2, 2), ("times", 3, 0),
         ("times", 2, 1), ("mix", (((-1, 1), 3), (HALF, 5))))
NET = (("x", "y"), NODES, ((-3, 7), (2, 6, 4)))


def of(*terms):
    return poly([(powers, algebra.pair(Fraction(f))) for powers, f in terms])


def plain_polys(net):
    """All nodes' polynomials, as dicts."""
    many = len(net[0])
    told = []
    for word, *things in net[1]:
        if word == "letter":
            told.append(algebra.letter(things[0], many))
        elif word == "times":
            told.append(algebra.multiplied(told[things[0]], told[things[1]]))
        else:
            total = {}
            for f, part in things[0]:
                total = algebra.added(total, {powers: g * Fraction(*f) for powers, g in told[part].items()})
            told.append(total)
    return told


def some_net(chance, most_nodes=14, most_degree=6):
    """Some net, made by hand."""
    letters = ("x", "y", "z")[:chance.randint(1, 3)]
    nodes = [("letter", chance.randrange(len(letters)))]
    reached = [1]
    while len(nodes) < most_nodes:
        word = chance.choice(("letter", "mix", "mix", "times", "times"))
        one, other = chance.randrange(len(nodes)), chance.randrange(len(nodes))
        if word == "letter":
            nodes.append((word, chance.randrange(len(letters))))
            reached.append(1)
        elif word == "times" and reached[other] <= reached[one] <= most_degree - reached[other]:
            nodes.append((word, one, other))
            reached.append(reached[one] + reached[other])
        elif word == "mix":
            like = [at for at, k in enumerate(reached) if k == reached[one]]
            parts = sorted(chance.sample(like, chance.randint(1, min(3, len(like)))))
            nodes.append((word, tuple((algebra.pair(Fraction(chance.choice((-3, -1, 1, 2)), chance.randint(1, 3))), at)
                                      for at in parts)))
            reached.append(reached[one])
    outs = []
    for k in range(1, chance.randint(1, most_degree + 1)):
        outs.append(chance.choice([None] + [at for at, own in enumerate(reached) if own == k]))
    return (letters, tuple(nodes), (algebra.some_fraction(chance, 5), tuple(outs)))
