"""The rows of a text, read one by one into parts and lines."""

from undivide.errors import BadText
from undivide.fractions import read_fraction
from undivide.reckonings import KEPT_WORDS, are_letters

SIGNS = ("+", "-", "*", "/")
LONGEST_NAME = 6
MOST_FIGURES = 6
MOST_NAMES = 3
MOST_ROUNDS = 3


class Part:
    """A part as told: how many parts stand ahead of it, its own names, its lines, what it comes to.

    The text itself is the last of them, with the letters as its names and the given name at its end.
    A line is a tuple (name, deed, things): the deed a sign, the word of a part, or "" where there is
    but one thing; the things names, or fractions.
    """

    def __init__(self, number, names, lines, last):
        self.number = number
        self.names = names
        self.lines = lines
        self.last = last


class Block:
    """Lines up to an end that isn't read yet, how often they are done, how many were written ahead."""

    def __init__(self, rounds, ahead):
        self.rounds = rounds
        self.ahead = ahead
        self.lines = []


def is_name(word):
    """Whether a word may be the name of a line or a part."""
    if len(word) > LONGEST_NAME or word in KEPT_WORDS:
        return False
    return word.isascii() and word.isalnum() and word.islower() and word[0].isalpha()


def are_names(words):
    """Whether all words may be names."""
    return all([is_name(word) for word in words])


def read_thing(word):
    """The word itself where it is a name, the fraction where it is the text of one, else None."""
    if is_name(word):
        return word
    if any([len(figures) > MOST_FIGURES for figures in word.removeprefix("-").split("/")]):
        return None
    try:
        return read_fraction(word)
    except BadText:
        return None


def read_line(words):
    """The line that words tell, or None where they tell none."""
    if len(words) < 3 or not is_name(words[0]) or words[1] != "=":
        return None
    deed, told = "", words[2:]
    if len(told) == 3 and told[1] in SIGNS:
        deed, told = told[1], [told[0], told[2]]
    elif len(told) > 1:
        deed, told = told[0], told[1:]
        if not is_name(deed):
            return None
    things = tuple([read_thing(word) for word in told])
    return None if None in things else (words[0], deed, things)


class Reader:
    """What the rows read so far tell; each row is taken, or can't stand where it stands."""

    def __init__(self):
        self.letters = ()
        self.parts = {}
        self.part_words = []
        self.blocks = [Block(1, 0)]
        self.written = 0
        self.last = ""
        self.begun = False
        self.given = ""

    def takes(self, row):
        """Whether a row can stand behind those ahead; if so it is kept."""
        words = row.split(" ")
        if self.letters == ():
            return self.takes_letters(words)
        if self.given != "":
            return False
        if words[0] == "part":
            return self.takes_part(words)
        if words[0] == "rounds":
            return self.takes_rounds(words)
        if words[0] == "end":
            return self.takes_end(words)
        if words[0] == "give":
            return self.takes_give(words)
        return self.takes_line(words)

    def takes_letters(self, words):
        """The first row."""
        letters = tuple(words[1:])
        if words[0] != "letters" or not are_letters(letters):
            return False
        self.letters = letters
        return True

    def takes_part(self, words):
        """A part's first row: no part stands in a part, or behind a line of the text's own."""
        names = words[2:]
        if self.part_words or self.begun or not 1 <= len(names) <= MOST_NAMES:
            return False
        if not are_names(words[1:]) or len(set(names)) != len(names):
            return False
        if words[1] in self.parts or words[1] in self.letters:
            return False
        self.part_words = words
        self.blocks.append(Block(1, self.written))
        return True

    def takes_rounds(self, words):
        """The first row of rounds."""
        within = len(self.blocks) - (2 if self.part_words else 1)
        if within == MOST_ROUNDS or len(words) != 2 or len(words[1]) != 1:
            return False
        if not words[1].isascii() or not words[1].isdigit():
            return False
        self.blocks.append(Block(int(words[1]), self.written))
        self.begin_own()
        return True

    def begin_own(self):
        """Keeps in mind that the text's own lines have begun, where no part is being read."""
        if not self.part_words:
            self.begun = True

    def takes_end(self, words):
        """The end of rounds or of a part, which must have had a line."""
        block = self.blocks[-1]
        if len(words) != 1 or len(self.blocks) == 1 or block.ahead == self.written:
            return False
        self.blocks.pop()
        if self.part_words and len(self.blocks) == 1:
            word, *names = self.part_words[1:]
            self.parts[word] = Part(len(self.parts), tuple(names), block.lines, self.last)
            self.part_words = []
        else:
            # Lines done again are written again: at most some hundred times, by three figures.
            self.blocks[-1].lines.extend(block.lines * block.rounds)
        return True

    def takes_give(self, words):
        """The last row."""
        if len(words) != 2 or len(self.blocks) != 1 or not is_name(words[1]):
            return False
        self.given = words[1]
        return True

    def takes_line(self, words):
        """A line, of the text's own, of a part or in rounds."""
        line = read_line(words)
        if line is None:
            return False
        self.blocks[-1].lines.append(line)
        self.written += 1
        self.last = line[0]
        self.begin_own()
        return True


def read_parts(text):
    """A dict of a text's parts by their words, and the text itself as a part; or BadText."""
    reader = Reader()
    rows = text.split("\n")
    for at, row in enumerate(rows):
        if not reader.takes(row):
            raise BadText(at)
    if reader.given == "":
        raise BadText(len(rows))
    whole = Part(len(reader.parts), reader.letters, reader.blocks[0].lines, reader.given)
    return reader.parts, whole
