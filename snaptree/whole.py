"""Whole numbers, and those that a leaf can have."""

LIMIT = 10 ** 30


def is_whole(thing):
    """Tell whether a thing is a whole number."""
    # Python counts True and False among the integers.
    return isinstance(thing, int) and not isinstance(thing, bool)


def is_leaf_number(thing):
    """Tell whether a thing is a number that a leaf can have."""
    return is_whole(thing) and -LIMIT < thing < LIMIT
