"""A pile of boxes, each with what is in it and a count of how many hold it."""

from snaptree.errors import NoBox
from snaptree.whole import is_whole


class Pile:
    """Boxes numbered from 1 on, of which those that nobody holds any more are gone."""

    def __init__(self):
        self.made = 0
        # Each box that is there has a count, and stands in one of the other two.
        self._counts = {}
        self._numbers = {}
        self._rows = {}

    def leaf(self, number):
        """Make a leaf with a number; tell the box."""
        box = self._next_box()
        self._numbers[box] = number
        return box

    def branch(self, rows):
        """Make a branch that holds the box of each of its rows; tell the box."""
        # Rows are kept in tuples, so that nobody can change what is in a box.
        kept_rows = tuple((name, held) for name, held in rows)
        for _, held in kept_rows:
            self._refuse_unless_there(held)
        for _, held in kept_rows:
            self._counts[held] += 1
        box = self._next_box()
        self._rows[box] = kept_rows
        return box

    def content(self, box):
        """Tell what is in a box: ("leaf", number) or ("branch", rows)."""
        self._refuse_unless_there(box)
        if box in self._rows:
            return ("branch", list(self._rows[box]))
        return ("leaf", self._numbers[box])

    def hold(self, box):
        """Count one more that holds a box."""
        self._refuse_unless_there(box)
        self._counts[box] += 1

    def holders(self, box):
        """Tell how many hold a box."""
        self._refuse_unless_there(box)
        return self._counts[box]

    def let_go(self, box):
        """Count one less that holds a box; tell how many boxes are gone by that."""
        self._refuse_unless_there(box)
        gone = 0
        # A list and no recursion, as thousands of branches may stand one above the other.
        waiting = [box]
        while waiting:
            held = waiting.pop()
            # What is gone already is passed over.
            if held in self._counts and self._lowered(held) == 0:
                gone += 1
                waiting.extend(self._taken_away(held))
        return gone

    def kept(self):
        """Tell the numbers of the boxes that are there, rising."""
        return sorted(self._counts)

    def kind_of(self, box):
        """Tell "leaf" or "branch", or None where no box is there."""
        if box in self._rows:
            return "branch"
        if box in self._numbers:
            return "leaf"
        return None

    def number_of(self, box):
        """Tell a leaf's number, or None where no leaf is."""
        return self._numbers.get(box, None)

    def rows_of(self, box):
        """Tell a branch's rows in a tuple, which is empty where no branch is."""
        return self._rows.get(box, ())

    def _next_box(self):
        """Give the next box its number, held by nobody."""
        self.made += 1
        self._counts[self.made] = 0
        return self.made

    def _refuse_unless_there(self, box):
        if not is_whole(box) or box not in self._counts:
            raise NoBox("no box that is there has this number")

    def _lowered(self, box):
        """Make a box's count one less, if it is above nought; tell the count."""
        self._counts[box] = max(self._counts[box] - 1, 0)
        return self._counts[box]

    def _taken_away(self, box):
        """Take a box away; tell the boxes that it held, once for each row."""
        del self._counts[box]
        self._numbers.pop(box, None)
        rows = self._rows.pop(box, ())
        return [held for _, held in rows]
