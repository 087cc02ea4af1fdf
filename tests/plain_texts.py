"""Points 12 to 14 by another way than the program's: rows by patterns, lines by plain recursion."""

import re

NAME = r"(?!(?:letters|part|rounds|end|give)(?![a-z0-9]))[a-z][a-z0-9]{0,5}"
NUMBER = r"-?[0-9]{1,6}(?:/[0-9]{1,6})?"
THING = rf"(?:{NAME}|{NUMBER})"
LETTER = r"(?!(?:part|end|give)(?![a-z]))[a-z]{1,5}"
ROWS = {
    "L": rf"letters {LETTER}(?: {LETTER}){{0,2}}",
    "P": rf"part {NAME}(?: {NAME}){{1,3}}",
    "r": r"rounds [0-9]",
    "e": r"end",
    "g": rf"give {NAME}",
    "l": rf"{NAME} = {THING}|{NAME} = {THING} [-+*/] {THING}|{NAME} = {NAME}(?: {THING})+",
}
ROUNDS = "l"
for _ in range(3):
    ROUNDS = f"(?:l|r{ROUNDS}+e)"
WHOLE = re.compile(f"L(?:P{ROUNDS}+e)*{ROUNDS}*g")
ENDS = [line + "e" * ends + "g" for line in ("", "l") for ends in range(5)]


class Stopped(Exception):
    """A refusal: its class's name and its field."""


def is_number_text(word):
    """Whether a word of the form NUMBER is the text of a fraction."""
    n, d = (int(part) for part in (word + "/1").split("/")[:2])
    if word.lstrip("-") == "" or d == 0:
        return False
    a, b = abs(n), d
    while b:
        a, b = b, a % b
    return a == 1 and word == (str(n) if d == 1 else f"{n}/{d}")


def kind_of(row, at, letters, parts):
    """The sign that stands for a row in WHOLE, X for a bad one."""
    words = row.split(" ")
    for kind, pattern in ROWS.items():
        if re.fullmatch(pattern, row, re.S) and "\n" not in row:
            numbers = [word for word in words[2:] if re.fullmatch(NUMBER, word)]
            if kind == "l" and not all(is_number_text(word) for word in numbers):
                return "X"
            told = words[1:] if kind == "L" else words[2:]
            if kind in "LP" and len(set(told)) < len(told):
                return "X"
            if kind == "P" and (words[1] in letters or words[1] in parts):
                return "X"
            return kind
    return "X"


def bad_row(rows):
    """The number of the first row by which rows are no text, or None."""
    kinds, letters, parts = "", (), []
    for at, row in enumerate(rows):
        kinds += kind_of(row, at, letters, parts)
        if not any(WHOLE.fullmatch(kinds + end) for end in ENDS + [""]):
            return at
        if kinds[-1] == "L":
            letters = tuple(row.split(" ")[1:])
        if kinds[-1] == "P":
            parts.append(row.split(" ")[1])
    return None if WHOLE.fullmatch(kinds) else len(rows)


def tree(rows, at):
    """The lines and rounds from a row on up to an end or a give, and that one's number."""
    told = []
    while rows[at] != "end" and not rows[at].startswith("give "):
        if rows[at].startswith("rounds "):
            inner, behind = tree(rows, at + 1)
            told.append((int(rows[at][-1]), inner))
            at = behind + 1
        else:
            told.append(rows[at].split(" "))
            at += 1
    return told, at


def last_line(body):
    return last_line(body[-1][1]) if isinstance(body[-1], tuple) else body[-1]


class Doer:
    """Does a text that is known to be one."""

    def __init__(self, text):
        rows = text.split("\n")
        self.letters = tuple(rows[0].split(" ")[1:])
        self.parts, self.rows, self.lines = [], [], 0
        at = 1
        while rows[at].startswith("part "):
            body, behind = tree(rows, at + 1)
            self.parts.append((rows[at].split(" ")[1:], body))
            at = behind + 1
        self.body, at = tree(rows, at)
        self.given = rows[at].split(" ")[1]

    def row(self, row):
        if len(self.rows) >= 200:
            raise Stopped("TooMany", 200)
        self.rows.append(row)
        return len(self.rows) - 1

    def known(self, word, names):
        if word[0] not in "-0123456789" and word not in names:
            raise Stopped("NoName", word)

    def thing(self, word, names):
        if word[0] not in "-0123456789":
            return names[word]
        n, d = (word + "/1").split("/")[:2]
        return self.row(("number", (int(n), int(d))))

    def do(self, body, names, ahead):
        for one in body:
            if isinstance(one, tuple):
                for _ in range(one[0]):
                    self.do(one[1], names, ahead)
            else:
                self.line(one, names, ahead)

    def line(self, words, names, ahead):
        self.lines += 1
        if self.lines > 1000:
            raise Stopped("TooMany", 200)
        name, rest = words[0], words[2:]
        if len(rest) == 1:
            self.known(rest[0], names)
            names[name] = self.thing(rest[0], names)
        elif rest[1] in "+-*/":
            self.known(rest[0], names)
            self.known(rest[2], names)
            one = self.thing(rest[0], names)
            other = self.thing(rest[2], names)
            word = {"+": "plus", "-": "less", "*": "times", "/": "over"}[rest[1]]
            names[name] = self.row((word, one, other))
        else:
            names[name] = self.call(rest, names, ahead)

    def call(self, rest, names, ahead):
        for at, (words, body) in enumerate(self.parts[:ahead]):
            if words[0] == rest[0] and len(words) == len(rest):
                for word in rest[1:]:
                    self.known(word, names)
                inner = {own: self.thing(word, names) for own, word in zip(words[1:], rest[1:])}
                self.do(body, inner, at)
                last = last_line(body)[0]
                self.known(last, inner)
                return inner[last]
        raise Stopped("NoName", rest[0])


def needed(rows):
    """The rows that the last one rests on, numbered anew."""
    reached, ahead = set(), [len(rows) - 1]
    while ahead:
        at = ahead.pop()
        if at not in reached:
            reached.add(at)
            ahead.extend(rows[at][1:] if len(rows[at]) == 3 else ())
    order = sorted(reached)
    return tuple(rows[at] if len(rows[at]) == 2 else (rows[at][0],) + tuple(order.index(k) for k in rows[at][1:])
                 for at in order)


def plain_read(text):
    """The reckoning of a text, or Stopped."""
    at = bad_row(text.split("\n"))
    if at is not None:
        raise Stopped("BadText", at)
    doer = Doer(text)
    names = {letter: doer.row(("letter", k)) for k, letter in enumerate(doer.letters)}
    doer.do(doer.body, names, len(doer.parts))
    doer.known(doer.given, names)
    return (doer.letters, needed(doer.rows[:names[doer.given] + 1]))
