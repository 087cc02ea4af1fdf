"""Reckonings: tuples (letters, rows), each row a number, a letter, or made of two rows ahead."""

from undivide.errors import BadLetters, BadRow
from undivide.fractions import is_fraction, is_number

KEPT_WORDS = ("letters", "part", "rounds", "end", "give")
MADE_WORDS = ("plus", "less", "times", "over")
MOST_LETTERS = 3
LONGEST_LETTER = 5


def is_letter(thing):
    """Whether a thing may be the name of a letter."""
    if not isinstance(thing, str) or len(thing) > LONGEST_LETTER or thing in KEPT_WORDS:
        return False
    return thing.isascii() and thing.isalpha() and thing.islower()


def are_letters(things):
    """Whether a tuple is one to three unlike names of letters."""
    if not isinstance(things, tuple) or not 1 <= len(things) <= MOST_LETTERS:
        return False
    return all([is_letter(thing) for thing in things]) and len(set(things)) == len(things)


def is_place(thing, many):
    """Whether a thing is the number of one of so many things, from 0 on."""
    return is_number(thing) and 0 <= thing < many


def is_row(row, at, many_letters):
    """Whether a row has one of the forms that the row numbered at may have."""
    if not isinstance(row, tuple) or row == ():
        return False
    word = row[0]
    if word == "number":
        return len(row) == 2 and is_fraction(row[1])
    if word == "letter":
        return len(row) == 2 and is_place(row[1], many_letters)
    return word in MADE_WORDS and len(row) == 3 and is_place(row[1], at) and is_place(row[2], at)


def look_letters(letters):
    """True of letters as they should be, else refused with BadLetters."""
    if not are_letters(letters):
        raise BadLetters()
    return True


def look_reckoning(reckoning):
    """True of a reckoning, else refused: its letters first, then its first bad row."""
    letters, rows = reckoning
    look_letters(letters)
    if not isinstance(rows, tuple) or rows == ():
        raise BadRow(0)
    for at, row in enumerate(rows):
        if not is_row(row, at, len(letters)):
            raise BadRow(at)
    return True


def parts_of(row):
    """The numbers of the rows that a row is made of."""
    return row[1:] if row[0] in MADE_WORDS else ()


def needed_rows(rows):
    """For each row whether the last one rests on it."""
    needed = [False] * len(rows)
    needed[-1] = True
    for at in range(len(rows) - 1, -1, -1):
        if needed[at]:
            for part in parts_of(rows[at]):
                needed[part] = True
    return needed


def pruned(reckoning):
    """The reckoning of the needed rows alone, in their order, numbered anew."""
    letters, rows = reckoning
    needed = needed_rows(rows)
    places = {}
    kept = []
    for at, row in enumerate(rows):
        if needed[at]:
            places[at] = len(kept)
            parts = parts_of(row)
            kept.append((row[0], places[parts[0]], places[parts[1]]) if parts else row)
    return (letters, tuple(kept))


def depth(reckoning):
    """The depth of the last row: 0 of a number and a letter, else one more than its deeper part's."""
    letters, rows = reckoning
    depths = []
    for row in rows:
        depths.append(max([depths[part] + 1 for part in parts_of(row)], default=0))
    return depths[-1]


def products(reckoning):
    """How many rows times there are, needed or not."""
    letters, rows = reckoning
    return len([row for row in rows if row[0] == "times"])


def is_whole(reckoning):
    """Whether no row, needed or not, is an over."""
    letters, rows = reckoning
    return all([row[0] != "over" for row in rows])


def row_weights(word, one, other):
    """The weights (above, beneath) of a row by its word and its parts' weights."""
    above, beneath = one
    other_above, other_beneath = other
    if word == "times":
        return (above + other_above, beneath + other_beneath)
    if word == "over":
        return (above + other_beneath, beneath + other_above)
    return (max(above + other_beneath, other_above + beneath), beneath + other_beneath)


def weights(reckoning):
    """A list of each row's pair of weights (above, beneath)."""
    letters, rows = reckoning
    told = []
    for row in rows:
        parts = parts_of(row)
        told.append(row_weights(row[0], told[parts[0]], told[parts[1]]) if parts else (1, 0))
    return told
