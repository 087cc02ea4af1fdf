"""Nets that tests are made of, and their polynomials and shares as points 21 and 23 tell them, over dicts of Fraction."""

from fractions import Fraction

import algebra
from undivide.polys import poly

ONE, HALF = (1, 1), (1, 2)
# x, y, x + 2 y, its square, x times that, (x + 2 y) times y over 2 less the square.
NODES = (("letter", 0), ("letter", 1), ("mix", ((ONE, 0), ((2, 1), 1))), ("times", 2, 2), ("times", 3, 0),
         ("times", 2, 1), ("mix", (((-1, 1), 3), (HALF, 5))))
NET = (("x", "y"), NODES, ((-3, 7), (2, 6, 4)))


def of(*terms):
    return poly([(powers, algebra.pair(Fraction(f))) for powers, f in terms])


def plain_polys(net):
    """All nodes' polynomials, as dicts."""
    many = len(net[0])
    told = []
    for word, *things in net[1]:
        if word == "letter":
            told.append(algebra.letter(things[0], many))
        elif word == "times":
            told.append(algebra.multiplied(told[things[0]], told[things[1]]))
        else:
            total = {}
            for f, part in things[0]:
                total = algebra.added(total, {powers: g * Fraction(*f) for powers, g in told[part].items()})
            told.append(total)
    return told


def plain_share(net, polys, u, v):
    """The share of v in u, just as point 23 tells it, as a dict."""
    if u == v:
        return algebra.number(1, len(net[0]))
    word, *things = net[1][u]
    if word == "letter":
        return {}
    if word == "times":
        return algebra.multiplied(plain_share(net, polys, things[0], v), polys[things[1]])
    total = {}
    for f, part in things[0]:
        own = plain_share(net, polys, part, v)
        total = algebra.added(total, {powers: g * Fraction(*f) for powers, g in own.items()})
    return total


def some_net(chance, most_nodes=14, most_degree=6):
    """Some net, made by hand."""
    letters = ("x", "y", "z")[:chance.randint(1, 3)]
    nodes = [("letter", chance.randrange(len(letters)))]
    reached = [1]
    while len(nodes) < most_nodes:
        word = chance.choice(("letter", "mix", "mix", "times", "times"))
        one, other = chance.randrange(len(nodes)), chance.randrange(len(nodes))
        if word == "letter":
            nodes.append((word, chance.randrange(len(letters))))
            reached.append(1)
        elif word == "times" and reached[other] <= reached[one] <= most_degree - reached[other]:
            nodes.append((word, one, other))
            reached.append(reached[one] + reached[other])
        elif word == "mix":
            like = [at for at, k in enumerate(reached) if k == reached[one]]
            parts = sorted(chance.sample(like, chance.randint(1, min(3, len(like)))))
            nodes.append((word, tuple((algebra.pair(Fraction(chance.choice((-3, -1, 1, 2)), chance.randint(1, 3))), at)
                                      for at in parts)))
            reached.append(reached[one])
    outs = []
    for k in range(1, chance.randint(1, most_degree + 1)):
        outs.append(chance.choice([None] + [at for at, own in enumerate(reached) if own == k]))
    return (letters, tuple(nodes), (algebra.some_fraction(chance, 5), tuple(outs)))


def rich_net(chance, most_nodes=20, most_degree=6):
    """Some net of many products, most of them needed."""
    letters = ("x", "y", "z")[:chance.randint(1, 3)]
    nodes = [("letter", k) for k in range(len(letters))]
    reached = [1] * len(letters)
    while len(nodes) < most_nodes:
        one, other = sorted((chance.randrange(len(nodes)), chance.randrange(len(nodes))), key=lambda at: -reached[at])
        if chance.random() < 0.4:
            like = [at for at, k in enumerate(reached) if k == reached[one]]
            parts = sorted(chance.sample(like, chance.randint(1, min(4, len(like)))))
            nodes.append(("mix", tuple((chance.choice((ONE, (-1, 1), HALF, (-3, 1))), at) for at in parts)))
            reached.append(reached[one])
        elif reached[one] + reached[other] <= most_degree:
            nodes.append(("times", one, other))
            reached.append(reached[one] + reached[other])
    outs = []
    for k in range(1, max(reached) + 1):
        like = [at for at, own in enumerate(reached) if own == k]
        outs.append(chance.choice(like) if like and chance.random() < 0.9 else None)
    return (letters, tuple(nodes), (chance.choice(((0, 1), (2, 3))), tuple(outs)))
