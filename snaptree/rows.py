"""The rows of a branch: pairs of a name and a box's number, the names rising, each once."""


def box_of(rows, name):
    """Tell the box that a name has in rows, or None."""
    at = _place(rows, name)
    if _is_at(rows, name, at):
        return rows[at][1]
    return None


def placed(rows, name, box):
    """Tell the rows with the name leading to the box, in a new list."""
    told = list(rows)
    at = _place(rows, name)
    if _is_at(rows, name, at):
        told[at] = (name, box)
    else:
        told.insert(at, (name, box))
    return told


def without(rows, name):
    """Tell the rows without the name, in a new list."""
    told = list(rows)
    at = _place(rows, name)
    if _is_at(rows, name, at):
        del told[at]
    return told


def _place(rows, name):
    """Tell how many of the rows have a name that stands before the one given."""
    low = 0
    high = len(rows)
    # The names rise, so that each step leaves half of the rows.
    while low < high:
        middle = (low + high) // 2
        if rows[middle][0] < name:
            low = middle + 1
        else:
            high = middle
    return low


def _is_at(rows, name, at):
    """Tell whether the row at a place is there and has the name."""
    return at < len(rows) and rows[at][0] == name
