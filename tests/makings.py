"""Reckonings and points that tests are made of."""

import algebra
from undivide.errors import NoOver
from undivide.quotients import polynomial_of
from undivide.reckonings import weights
from undivide.running import run

NAMES = ("x", "y", "z")
WORDS = ("plus", "less", "times", "over")
# As many rows as are asked for, most of them needed, with great fractions.
MANY = (NAMES, (
    ("letter", 0), ("letter", 1), ("letter", 2), ("number", (999983, 999979)), ("plus", 0, 3), ("plus", 4, 1),
    ("plus", 5, 2), ("over", 6, 5), ("less", 6, 4), ("over", 8, 7), ("times", 7, 5), ("plus", 10, 3), ("over", 11, 9),
    ("over", 9, 4), ("plus", 10, 9), ("over", 14, 7), ("over", 15, 10), ("plus", 16, 8), ("times", 17, 5),
    ("plus", 16, 11), ("over", 17, 12), ("over", 20, 11), ("less", 18, 5), ("times", 20, 7),
))
MANY_POINT = ((-997, 991), (983, 977), (971, 967))


def fits(letters, rows, most_weight):
    return max(weights((letters, tuple(rows)))[-1]) <= most_weight


def some_reckoning(chance, most_rows=10, most_weight=12, words=WORDS, most_number=9):
    """Some reckoning by these words; it may divide by nought."""
    letters = NAMES[:chance.randint(1, 3)]
    rows = [("letter", k) for k in range(len(letters))]
    while len(rows) < most_rows:
        row = (chance.choice(words), chance.randrange(max(0, len(rows) - 6), len(rows)), chance.randrange(len(rows)))
        if chance.random() < 0.2:
            row = ("number", algebra.some_fraction(chance, most_number))
        if fits(letters, rows + [row], most_weight):
            rows.append(row)
    return (letters, tuple(rows))


def some_point(chance, letters, most=3):
    return tuple(algebra.some_fraction(chance, most) for _ in letters)


def runs(reckoning, point):
    try:
        run(reckoning, point)
    except NoOver:
        return False
    return True


def good_pairs(chance, many, **keywords):
    """So many pairs of a reckoning and a good point of it."""
    while many:
        one = some_reckoning(chance, **keywords)
        point = some_point(chance, one[0])
        if runs(one, point):
            many -= 1
            yield one, point


def with_quotients(chance, most_rows=14, most_weight=12):
    """Some reckoning that divides and comes to a polynomial, and this one."""
    while True:
        letters = NAMES[:chance.randint(1, 3)]
        rows = [("letter", k) for k in range(len(letters))]
        rows.append(("number", algebra.some_fraction(chance, 5)))
        while len(rows) < most_rows - 3:
            one, other = chance.randrange(len(rows)), chance.randrange(len(rows))
            at = len(rows)
            more = chance.choice((
                [(chance.choice(WORDS[:3]), one, other)], [(chance.choice(WORDS[:2]), one, other)],
                [("times", one, other), ("over", at, other)], [("over", one, other), ("times", at, other)],
                [("over", one, other), ("over", one, at)], [("over", one, one), ("plus", at, other)]))
            if all(fits(letters, rows + more[:k + 1], most_weight) for k in range(len(more))):
                rows += more
        one = (letters, tuple(rows))
        try:
            told = polynomial_of(one)
        except NoOver:
            continue
        if told is not None and any(row[0] == "over" for row in rows):
            return one, told


def doubled(word, many=24):
    """A reckoning of rows each made of the one ahead twice."""
    return (("x",), (("letter", 0),) + tuple((word, at, at) for at in range(many - 1)))
