"""Webs: tuples (letters, dots, ways) whose walks add up to a polynomial, and webs of reckonings."""

from undivide.errors import BadWay, NotWhole, TooMany
from undivide.forms import form_plus, form_sum, fractions_of, letter_by_powers, number_by_powers, times_by_powers
from undivide.fractions import NOUGHT, ONE, is_fraction, is_number
from undivide.reckonings import is_place, look_letters


def is_entry(thing, many_letters):
    """Whether a thing is a pair of a fraction and None or a letter's number."""
    if not isinstance(thing, tuple) or len(thing) != 2:
        return False
    f, letter = thing
    return is_fraction(f) and (letter is None or is_place(letter, many_letters))


def is_way(way, dots, many_letters):
    """Whether a thing has the form of a way."""
    if not isinstance(way, tuple) or len(way) != 3:
        return False
    start, end, entry = way
    if not is_place(start, dots) or not is_place(end, dots) or start >= end:
        return False
    return is_entry(entry, many_letters) and entry[0] != NOUGHT


def look_web(web):
    """True of a web, else refused: its letters first, then its dots, then its first bad way."""
    letters, dots, ways = web
    look_letters(letters)
    if not is_number(dots) or dots < 2:
        raise BadWay(-1)
    if not isinstance(ways, tuple):
        raise BadWay(0)
    ahead = (-1, -1)
    for at, way in enumerate(ways):
        if not is_way(way, dots, len(letters)) or way[:2] <= ahead:
            raise BadWay(at)
        ahead = way[:2]
    return True


def walked_ways(web):
    """A list of the ways that some walk goes by, in their order."""
    letters, dots, ways = web
    reached = {0: True}
    for start, end, entry in ways:
        if start in reached:
            reached[end] = True
    leading = {dots - 1: True}
    for start, end, entry in reversed(ways):
        if end in leading:
            leading[start] = True
    return [way for way in ways if way[0] in reached and way[1] in leading]


def by_letter(form, letter, many_letters):
    """A form by powers times a letter, or itself where that is None."""
    return form if letter is None else times_by_powers(form, letter_by_powers(letter, many_letters))


def dot_form(parts, many_letters):
    """The sum of forms by powers, in a dict by the letters that they are to be multiplied by, or None."""
    told = number_by_powers(NOUGHT, many_letters)
    for letter, form in parts.items():
        told = form_plus(told, by_letter(form, letter, many_letters))
    return told


def web_poly(web):
    """The polynomial that a web stands for: over all walks, its ways' entries multiplied, added."""
    letters, dots, ways = web
    nought = number_by_powers(NOUGHT, len(letters))
    parts = {0: {None: number_by_powers(ONE, len(letters))}}
    forms = {}
    # Ways are sorted, so that all ways to a dot are gone ahead of the first one from it.
    for start, end, entry in walked_ways(web):
        if start not in forms:
            forms[start] = dot_form(parts[start], len(letters))
        f, letter = entry
        own = parts.setdefault(end, {})
        own[letter] = form_sum(own.get(letter, nought), forms[start], f)
    return tuple(fractions_of(dot_form(parts.get(dots - 1, {}), len(letters))))


def widths(reckoning):
    """A list of all rows' widths; refused with NotWhole at the first over."""
    letters, rows = reckoning
    told = []
    for at, row in enumerate(rows):
        word = row[0]
        if word == "over":
            raise NotWhole(at)
        if word == "number" or word == "letter":
            told.append(1)
        else:
            told.append(told[row[1]] + told[row[2]] + (0 if word == "plus" else 1))
    return told


def width(reckoning):
    """The width of the last row, opened; refused with NotWhole at the first over."""
    return widths(reckoning)[-1]


def leaf_entry(row):
    """The entry of a number's or a letter's row."""
    return (row[1], None) if row[0] == "number" else (ONE, row[1])


def opened_ways(rows, wide):
    """The ways of the last row opened, from dot 0 to the one numbered by its width and 1."""
    ways = []
    # Waiting are rows, each with the dots between which its walks go and the first of the dots in between that
    # are its own: as many as it is wide, so that two ways never go from the same dot to the same one.
    waiting = [(len(rows) - 1, 0, wide[-1] + 1, 1)]
    while waiting:
        at, start, end, own = waiting.pop()
        row = rows[at]
        if row[0] == "number" or row[0] == "letter":
            ways.append((start, own, leaf_entry(row)))
            ways.append((own, end, (ONE, None)))
            continue
        between = own + wide[row[1]]
        if row[0] == "plus":
            waiting.append((row[1], start, end, own))
            waiting.append((row[2], start, end, between))
        elif row[0] == "less":
            ways.append((start, between, ((-1, 1), None)))
            waiting.append((row[1], start, end, own))
            waiting.append((row[2], between, end, between + 1))
        else:
            waiting.append((row[1], start, between, own))
            waiting.append((row[2], between, end, between + 1))
    return ways


def web_of(reckoning, most=60):
    """A web of a reckoning without quotients; refused with NotWhole, then with TooMany where it may be too wide."""
    letters, rows = reckoning
    wide = widths(reckoning)
    dots = wide[-1] + 2
    if dots > most:
        raise TooMany(len(rows) - 1)
    ways = [way for way in opened_ways(rows, wide) if way[2][0] != NOUGHT]
    return (letters, dots, tuple(sorted(ways)))
