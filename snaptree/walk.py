"""Ways down a tree that lies in a pile, and what two trees differ in.

A box is None here where nothing stands.
"""

from snaptree.rows import box_of


def boxes_on(pile, top, names):
    """Tell the boxes on the way from a top box down a path, both ends included."""
    boxes = [top]
    for name in names:
        boxes.append(box_of(pile.rows_of(boxes[-1]), name))
    return boxes


def compare(pile, path, before, after, found):
    """Add the changes at a path and below it to those found; tell how many places were looked at."""
    if before == after:
        return 0
    first = pile.number_of(before)
    second = pile.number_of(after)
    if first != second:
        found.append((path, first, second))
    looked = 1
    for name, box, other in _side_by_side(pile.rows_of(before), pile.rows_of(after)):
        looked += compare(pile, path + [name], box, other, found)
    return looked


def _side_by_side(before, after):
    """Tell each name of either rows, rising, with the box that it leads to in each."""
    first = dict(before)
    second = dict(after)
    names = sorted({**first, **second})
    return [(name, first.get(name, None), second.get(name, None)) for name in names]
