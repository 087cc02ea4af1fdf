"""The desk: reckonings kept by names, and rows of words by which they are asked and made anew."""

from undivide.alike import parted
from undivide.errors import NoName, NoRow, NotPolynomial, NotWhole
from undivide.fractions import fraction_text, read_fraction
from undivide.netted import net_of
from undivide.polys import degree
from undivide.quotients import good_point, polynomial_of
from undivide.reckonings import depth, is_whole, products, pruned
from undivide.running import run
from undivide.shallow import shallow
from undivide.shown import show_reckoning
from undivide.textrows import is_name
from undivide.texts import read_reckoning
from undivide.undivided import undivided


def point_text(point):
    """The fractions of a point, blanks between."""
    return " ".join([fraction_text(f) for f in point])


def pair_text(powers, f):
    """A pair of a polynomial: its fraction, a colon and its powers."""
    return fraction_text(f) + ":" + ",".join([str(power) for power in powers])


def told_polynomial(reckoning):
    """What a reckoning comes to; refused with NoOver, then with NotPolynomial."""
    told = polynomial_of(reckoning)
    if told is None:
        raise NotPolynomial(0)
    return told


def keep_text(kept, words):
    """Keeps the reckoning of a text."""
    kept[words[1]] = read_reckoning(words[2].replace(";", "\n"))
    return "ok"


def show_kept(kept, words):
    """The text of a reckoning."""
    return show_reckoning(kept[words[1]]).replace("\n", ";")


def run_kept(kept, words):
    """The value of a reckoning's last row at a point."""
    reckoning = kept[words[1]]
    if len(words) - 2 != len(reckoning[0]):
        raise NoRow()
    point = tuple([read_fraction(word) for word in words[2:]])
    return fraction_text(run(reckoning, point)[-1])


def tell_point(kept, words):
    """The first good point of a reckoning."""
    return point_text(good_point(kept[words[1]]))


def tell_poly(kept, words):
    """What a reckoning comes to."""
    told = polynomial_of(kept[words[1]])
    if told is None:
        return "none"
    return " ".join([pair_text(powers, f) for powers, f in told]) if told else "0"


def keep_undivided(kept, words):
    """Keeps a reckoning made anew without quotients."""
    reckoning = kept[words[2]]
    most = max(0, degree(told_polynomial(reckoning)))
    kept[words[1]] = undivided(reckoning, good_point(reckoning), most)[0]
    return "ok"


def keep_shallow(kept, words):
    """Keeps a reckoning made anew with few rows one behind another; refused with NotWhole where it has an over."""
    reckoning = kept[words[2]]
    most = max(0, degree(told_polynomial(reckoning)))
    needed = pruned(reckoning)
    if not is_whole(needed):
        raise NotWhole([row[0] for row in needed[1]].index("over"))
    kept[words[1]] = shallow(net_of(needed, most))[0]
    return "ok"


def tell_parted(kept, words):
    """Whether two reckonings are alike, or the point at which they part."""
    word, told = parted(kept[words[1]], kept[words[2]])
    return "alike" if word == "alike" else "at " + point_text(told)


def tell_count(kept, words):
    """How many rows and products a reckoning has, and its depth, pruned."""
    needed = pruned(kept[words[1]])
    return f"{len(needed[1])} {products(needed)} {depth(needed)}"


DEEDS = {
    "keep": keep_text, "show": show_kept, "run": run_kept, "point": tell_point, "poly": tell_poly,
    "undivide": keep_undivided, "shallow": keep_shallow, "part": tell_parted, "count": tell_count,
}
# What stands behind a row's first word: a name to keep by, a name that is kept, or a text. The fractions of a run
# aren't told here: how many are due hangs on what is kept, so they are counted behind the look at the names.
FORMS = {
    "keep": ("new", "text"), "show": ("kept",), "run": ("kept",), "point": ("kept",), "poly": ("kept",),
    "undivide": ("new", "kept"), "shallow": ("new", "kept"), "part": ("kept", "kept"), "count": ("kept",),
}


def words_of(row):
    """A list of the words of a row, a text to be kept being one; refused with NoRow where it is no row of a desk."""
    if not isinstance(row, str) or "\n" in row:
        raise NoRow()
    words = row.split(" ", 2) if row.startswith("keep ") else row.split(" ")
    if words[0] not in FORMS or "" in words:
        raise NoRow()
    many = len(FORMS[words[0]]) + 1
    if len(words) < many or (len(words) > many and words[0] != "run"):
        raise NoRow()
    return words


def look_names(kept, words):
    """Looks at the names in a row's words, from the left; refused with NoName."""
    for word, kind in zip(words[1:], FORMS[words[0]]):
        if kind == "new" or kind == "kept":
            if not is_name(word) or (kind == "kept" and word not in kept):
                raise NoName(word)


class Desk:
    """Reckonings by the names that they are kept under."""

    def __init__(self):
        self.kept = {}

    def say(self, row):
        """The answer to a row, a text; what is refused changes nothing."""
        words = words_of(row)
        look_names(self.kept, words)
        deed = DEEDS[words[0]]
        return deed(self.kept, words)
