"""Reckonings written as texts."""

from undivide.fractions import fraction_text

WORD_SIGNS = {"plus": "+", "less": "-", "times": "*", "over": "/"}


def row_text(reckoning, at):
    """How the row numbered at is written where it is a part of another one."""
    letters, rows = reckoning
    word, thing = rows[at][0], rows[at][1]
    if word == "letter":
        return letters[thing]
    if word == "number":
        return fraction_text(thing)
    return f"r{at}"


def line_text(reckoning, at):
    """The line of a row that is made of two others."""
    word, one, other = reckoning[1][at]
    return f"r{at} = {row_text(reckoning, one)} {WORD_SIGNS[word]} {row_text(reckoning, other)}"


def show_reckoning(reckoning):
    """The text of a reckoning."""
    letters, rows = reckoning
    told = [" ".join(["letters"] + list(letters))]
    for at, row in enumerate(rows):
        if row[0] in WORD_SIGNS:
            told.append(line_text(reckoning, at))
    last = len(rows) - 1
    given = row_text(reckoning, last)
    if rows[last][0] == "number":
        # A number can't be given, only a name that stands for it.
        told.append(f"r{last} = {given}")
        given = f"r{last}"
    told.append(f"give {given}")
    return "\n".join(told)
