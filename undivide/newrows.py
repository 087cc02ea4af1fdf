"""The rows and the paper of a reckoning that is being made."""

from undivide.forms import LETTER
from undivide.fractions import NOUGHT


class NewRows:
    """A new reckoning's rows and paper so far, and where letters, numbers and marks stand in it."""

    def __init__(self):
        self.rows = []
        self.paper = []
        self.places = {}
        self.mark_places = {}

    def add_new(self, row):
        """Adds a row and tells its number."""
        self.rows.append(row)
        self.paper.append(None)
        return len(self.rows) - 1

    def shared(self, row):
        """The number of a letter's or a number's row, which is added where it isn't there yet."""
        if row not in self.places:
            self.places[row] = self.add_new(row)
        return self.places[row]

    def mark_row(self, mark):
        """The number of the row whose form is a mark."""
        if mark[0] == LETTER:
            return self.shared(("letter", mark[1]))
        return self.mark_places[mark]

    def product_row(self, product):
        """The number of a row whose form is a product of marks, one at least."""
        told = self.mark_row(product[0])
        for mark in product[1:]:
            told = self.add_new(("times", told, self.mark_row(mark)))
        return told

    def sum_row(self, signed):
        """The number of a row of all rows, added or taken off, of a list of pairs (is added, row)."""
        added = [row for is_added, row in signed if is_added]
        taken = [row for is_added, row in signed if not is_added]
        told = added[0] if added else self.shared(("number", NOUGHT))
        for row in added[1:]:
            told = self.add_new(("plus", told, row))
        for row in taken:
            told = self.add_new(("less", told, row))
        return told

    def apart(self, row):
        """The number of a row with this row's form that is neither shared nor told of a mark."""
        if self.paper[row] is None and self.rows[row] not in self.places:
            return row
        return self.add_new(("plus", row, self.shared(("number", NOUGHT))))

    def balanced_row(self, parts):
        """The number of a row of all rows of a list, one at least, added, with few rows one behind another."""
        left = parts
        while len(left) > 1:
            halved = []
            for at in range(0, len(left) - 1, 2):
                halved.append(self.add_new(("plus", left[at], left[at + 1])))
            left = halved + left[2 * len(halved):]
        return left[0]
