"""Names, paths, and how a path is written."""

from snaptree.errors import BadPath

LONGEST_NAME = 8
LONGEST_PATH = 8


def is_name(thing):
    """Tell whether a thing is a name: one to eight small letters from a to z."""
    if not isinstance(thing, str):
        return False
    if not 1 <= len(thing) <= LONGEST_NAME:
        return False
    # islower and isalpha would let letters beyond a to z pass.
    return all("a" <= sign <= "z" for sign in thing)


def checked(path):
    """Tell the names of a path in a new list."""
    if not isinstance(path, (list, tuple)):
        raise BadPath("a path is a list or a tuple of names")
    if len(path) > LONGEST_PATH:
        raise BadPath("a path has at most eight names")
    for name in path:
        if not is_name(name):
            raise BadPath("a name is one to eight small letters from a to z")
    return list(path)


def written(path):
    """Tell the text that a path is written as."""
    return "/" + "/".join(checked(path))


def read(line):
    """Tell the path that a text writes, in a new list."""
    if not isinstance(line, str):
        raise BadPath("a written path is a text")
    if line == "/":
        return []
    if not line.startswith("/"):
        raise BadPath("a written path begins with /")
    # An empty piece (of "//", or of a / at the end) is no name, so it is refused here too.
    return checked(line[1:].split("/"))
