"""A store: one tree of names that changes, and its snapshots."""

from snaptree.errors import BadNumber, BadPath, BranchThere, LeafThere, NoShot, Nothing
from snaptree.paths import checked
from snaptree.pile import Pile
from snaptree.rows import placed, without
from snaptree.walk import boxes_on, compare
from snaptree.whole import is_leaf_number, is_whole


class Store:
    """A tree, the snapshots of it, and the pile that the boxes of all of them lie in."""

    def __init__(self):
        self.pile = Pile()
        self._top = self.pile.branch([])
        self.pile.hold(self._top)
        self._shot_tops = {}
        self._shots_taken = 0

    def put(self, path, number):
        """Make a leaf stand at a path; tell how many boxes are gone by that."""
        names = _names_below_top(path)
        if not is_leaf_number(number):
            raise BadNumber("a leaf's number is a whole one of at most thirty digits")
        boxes = boxes_on(self.pile, self._top, names)
        if "leaf" in [self.pile.kind_of(box) for box in boxes[:-1]]:
            raise LeafThere("a leaf stands on the way to the path")
        if self.pile.kind_of(boxes[-1]) == "branch":
            raise BranchThere("a branch stands at the path")
        if self.pile.number_of(boxes[-1]) == number:
            return 0
        return self._lead_to(boxes[:-1], names, self.pile.leaf(number))

    def cut(self, path):
        """Take away what stands at a path and below it; tell how many boxes are gone by that."""
        names = _names_below_top(path)
        boxes = boxes_on(self.pile, self._top, names)
        if boxes[-1] is None:
            raise Nothing("nothing stands at the path")
        lowest = self.pile.branch(without(self.pile.rows_of(boxes[-2]), names[-1]))
        return self._lead_to(boxes[:-2], names[:-1], lowest)

    def drop(self, shot):
        """End a snapshot; tell how many boxes are gone by that."""
        top = self._shot_top(shot)
        del self._shot_tops[shot]
        return self.pile.let_go(top)

    def back(self, shot):
        """Make the tree that of a snapshot; tell how many boxes are gone by that."""
        return self._turn_to(self._shot_top(shot))

    def snap(self):
        """Take a snapshot; tell its number."""
        self._shots_taken += 1
        self._shot_tops[self._shots_taken] = self._top
        self.pile.hold(self._top)
        return self._shots_taken

    def shot_numbers(self):
        """Tell the numbers of the snapshots that have not ended, rising."""
        return sorted(self._shot_tops)

    def top(self, view):
        """Tell the number of a view's top box."""
        if view is None:
            return self._top
        return self._shot_top(view)

    def kind(self, view, path):
        """Tell "leaf" or "branch", or None where nothing stands at a path."""
        return self.pile.kind_of(self._box_at(view, path))

    def value(self, view, path):
        """Tell the number of the leaf at a path."""
        box = self._box_at(view, path)
        if box is None:
            raise Nothing("nothing stands at the path")
        if self.pile.kind_of(box) == "branch":
            raise BranchThere("a branch stands at the path")
        return self.pile.number_of(box)

    def names(self, view, path):
        """Tell the names of the branch at a path, rising."""
        box = self._box_at(view, path)
        if box is None:
            raise Nothing("nothing stands at the path")
        if self.pile.kind_of(box) == "leaf":
            raise LeafThere("a leaf stands at the path")
        return [name for name, _ in self.pile.rows_of(box)]

    def changes(self, one, other):
        """Tell the changes from one view to another, and how many places were looked at."""
        before = self.top(one)
        after = self.top(other)
        found = []
        looked = compare(self.pile, [], before, after, found)
        return (found, looked)

    def _shot_top(self, shot):
        """Tell the top box of a snapshot."""
        if not is_whole(shot) or shot not in self._shot_tops:
            raise NoShot("no snapshot that is there has this number")
        return self._shot_tops[shot]

    def _box_at(self, view, path):
        """Tell the box at a path of a view, or None where nothing stands."""
        top = self.top(view)
        return boxes_on(self.pile, top, checked(path))[-1]

    def _lead_to(self, branches, names, box):
        """Make each branch anew, the lowest first, with its name leading to the box made last."""
        for branch, name in reversed(list(zip(branches, names))):
            box = self.pile.branch(placed(self.pile.rows_of(branch), name, box))
        return self._turn_to(box)

    def _turn_to(self, top):
        """Make a box the tree's top; tell how many boxes are gone by that."""
        before = self._top
        # Held first: the top before may be the same box.
        self.pile.hold(top)
        self._top = top
        return self.pile.let_go(before)


def _names_below_top(path):
    """Tell the names of a path that is not the top's."""
    names = checked(path)
    if names == []:
        raise BadPath("the top itself is no leaf and cannot be taken away")
    return names
