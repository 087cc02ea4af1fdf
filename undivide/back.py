"""Back from webs to reckonings without quotients, and from tables to webs."""

from undivide.fractions import NOUGHT, ONE
from undivide.newrows import NewRows
from undivide.webs import walked_ways


def way_row(made, entry, ahead):
    """The number of a row of an entry times the row ahead, which is None where there is none."""
    f, letter = entry
    factors = [] if f == ONE else [made.shared(("number", f))]
    if letter is not None:
        factors.append(made.shared(("letter", letter)))
    if ahead is not None:
        factors.append(ahead)
    if not factors:
        return made.shared(("number", ONE))
    told = factors[0]
    for factor in factors[1:]:
        told = made.add_new(("times", told, factor))
    return told


def reckoning_of_web(web):
    """A reckoning without quotients that comes to what a web stands for."""
    made = NewRows()
    sums = {}
    for start, end, entry in walked_ways(web):
        row = way_row(made, entry, sums.get(start))
        sums[end] = made.add_new(("plus", sums[end], row)) if end in sums else row
    # The last way of all walks leads to the last dot, and behind its row no other one is made.
    rows = made.rows if made.rows else [("number", NOUGHT)]
    return (web[0], tuple(rows))


def steps_from(rows, state):
    """A dict of the entries, perhaps noughts, of the steps from a state by the states that they lead to."""
    head, now = state
    told = {}
    for place in range(head + 1, len(rows)):
        f, letter = rows[now][place]
        told[(head, place)] = ((-f[0], f[1]), letter)
        told[(place, place)] = rows[now][head]
    return told


def web_of_table(table):
    """A web that stands for the signed sum of products of a table."""
    letters, rows = table
    # A closed walk goes from its head, by greater places, back to it. Taken are as many steps as there are rows, by
    # closed walks with rising heads, 0 first, steps that close none taken off: whatever is no order of the columns
    # falls away in pairs (Mahajan and Vinay). A state is a walk's head and where it is now.
    ways = []
    dots = 1
    ahead = {(0, 0): 0}
    for step in range(len(rows) - 1):
        behind = {}
        for state, start in ahead.items():
            for other, entry in steps_from(rows, state).items():
                if entry[0] != NOUGHT:
                    if other not in behind:
                        behind[other] = dots
                        dots += 1
                    ways.append((start, behind[other], entry))
        ahead = behind
    for (head, now), start in ahead.items():
        if rows[now][head][0] != NOUGHT:
            ways.append((start, dots, rows[now][head]))
    return (letters, dots + 1, tuple(sorted(ways)))
