"""Texts read into reckonings: their lines are done one behind the other, each making its rows."""

from undivide.errors import NoName, TooMany
from undivide.reckonings import pruned
from undivide.textrows import read_parts

WORDS = {"+": "plus", "-": "less", "*": "times", "/": "over"}
MOST_ROWS = 200
MOST_LINES = 1000


class Making:
    """The rows made and the lines done so far, neither more than is let by."""

    def __init__(self):
        self.rows = []
        self.done = 0

    def begin_line(self):
        """Counts a line that is about to be done."""
        if self.done == MOST_LINES:
            raise TooMany(MOST_ROWS)
        self.done += 1

    def add_row(self, row):
        """Makes a row and tells its number."""
        if len(self.rows) == MOST_ROWS:
            raise TooMany(MOST_ROWS)
        self.rows.append(row)
        return len(self.rows) - 1

    def row_of(self, thing, known):
        """The number of the row that a known name stands for, or of a new one for a fraction."""
        if isinstance(thing, str):
            return known[thing]
        return self.add_row(("number", thing))


class Scene:
    """A part being done: the rows that its known names stand for, and how many lines are done."""

    def __init__(self, part, known):
        self.part = part
        self.known = known
        self.at = 0


def called_part(parts, scene, word, things):
    """The part that a line calls, told ahead and with as many names as things; or NoName."""
    if word not in parts:
        raise NoName(word)
    part = parts[word]
    if part.number >= scene.part.number or len(part.names) != len(things):
        raise NoName(word)
    return part


def look_known(things, known):
    """Refuses the first name of a line that stands for nothing."""
    for thing in things:
        if isinstance(thing, str) and thing not in known:
            raise NoName(thing)


def do_line(making, parts, scene, line):
    """Does a line; where it calls a part, the part's scene is told and its lines are still to do."""
    name, deed, things = line
    making.begin_line()
    called = None
    if deed != "" and deed not in WORDS:
        called = called_part(parts, scene, deed, things)
    look_known(things, scene.known)
    rows = [making.row_of(thing, scene.known) for thing in things]
    if called is not None:
        return Scene(called, dict(zip(called.names, rows)))
    if deed == "":
        scene.known[name] = rows[0]
    else:
        scene.known[name] = making.add_row((WORDS[deed], rows[0], rows[1]))
    return None


def do_lines(making, parts, whole):
    """Does all lines, a scene's own and those of parts that it calls; tells the last row's number."""
    # The scenes are kept in a list, as parts may call one another deeper than calls of Python should go.
    scenes = [whole]
    while True:
        scene = scenes[-1]
        lines = scene.part.lines
        if scene.at < len(lines):
            scene.at += 1
            called = do_line(making, parts, scene, lines[scene.at - 1])
            if called is not None:
                scenes.append(called)
            continue
        look_known((scene.part.last,), scene.known)
        row = scene.known[scene.part.last]
        scenes.pop()
        if not scenes:
            return row
        caller = scenes[-1]
        caller.known[caller.part.lines[caller.at - 1][0]] = row


def read_reckoning(text):
    """The reckoning of a text; refused with BadText, NoName or TooMany."""
    parts, whole = read_parts(text)
    making = Making()
    known = {}
    for k, letter in enumerate(whole.names):
        known[letter] = making.add_row(("letter", k))
    last = do_lines(making, parts, Scene(whole, known))
    return pruned((whole.names, tuple(making.rows[:last + 1])))
