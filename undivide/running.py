"""Reckonings run at a point."""

from undivide.errors import NoOver
from undivide.fractions import NOUGHT, less, over, plus, times


def made_value(word, one, other):
    """The value of a row by its word and its parts' values; over is asked of no nought."""
    if word == "plus":
        return plus(one, other)
    if word == "less":
        return less(one, other)
    if word == "times":
        return times(one, other)
    return over(one, other)


def run(reckoning, point):
    """A list of all rows' values; refused with NoOver at the first row that divides by nought."""
    letters, rows = reckoning
    told = []
    for at, row in enumerate(rows):
        word = row[0]
        if word == "number":
            told.append(row[1])
        elif word == "letter":
            told.append(point[row[1]])
        elif word == "over" and told[row[2]] == NOUGHT:
            raise NoOver(at)
        else:
            told.append(made_value(word, told[row[1]], told[row[2]]))
    return told
