"""What several tests use: things of wrong kinds, pictures of piles and stores, mixed numbers."""

import string
from decimal import Decimal
from fractions import Fraction

from snaptree.paths import read
from snaptree.store import Store

# Texts that are almost names.
BAD_TEXTS = [
    "", "aaaaaaaaa", "zzzzzzzzz", "a" * 1000,
    "A", "Z", "Ab", "aB", "abcdefgH",
    "0", "9", "a1", "1a", "a1b",
    " ", " a", "a ", "a b", "        ",
    "a\n", "\na", "abcdefg\n", "abcdefgh\n", "a\r", "a\r\n", "\n",
    "a\t", "\t", "a\x00", "\x00",
    "/", "/a", "a/", "a/b",
    "`", "{", "a`", "a{", "_", "a_b", "-", ".", "a.b",
    "\u00e9", "a\u00e9", "\u00df", "\u0131", "\u03b1", "\u0430", "\uff41", "\u00aa", "a\u0301",
    "\ud800", "\U0001d41a", "\u4e2d",
]


class Odd:
    """A thing that is equal to everything, and is looked up as 1 is."""

    def __eq__(self, other):
        return True

    def __hash__(self):
        return 1


class Sharp:
    """A thing that cannot be compared, looked up, measured, tested or shown."""

    def fail(self, *rest):
        raise RuntimeError("a refusal needs none of this")

    __eq__ = __lt__ = __gt__ = __le__ = __ge__ = __hash__ = __len__ = __bool__ = __iter__ = fail
    __int__ = __index__ = __repr__ = __str__ = __getitem__ = __contains__ = fail


# The lists of things are made anew for each test, as some of them could be changed.
def no_texts():
    return [
        0, 1, -1, 10 ** 40, True, False, None, 1.5, 2j,
        b"", b"a", b"abc", bytearray(b"a"),
        [], ["a"], (), ("a",), {}, {"a": 1}, {"a"}, frozenset("a"),
        range(1), iter("a"), object(), Odd(), Sharp(), str, string.capwords, NotImplemented, ...,
    ]


def no_sequences():
    """Things that are neither a list nor a tuple."""
    return [
        "", "a", "ab", "/", "/a", b"", b"a", bytearray(b"a"), {}, {"a": "b"}, {"a"}, frozenset("a"),
        None, True, False, 0, 1, -1, 8, 1.5, range(0), iter(["a"]), {"a": 1}.keys(),
        object(), Odd(), Sharp(), list, tuple, string.capwords, ...,
    ]


def no_paths():
    """Things of each kind that is no path."""
    return (
        no_sequences()
        + [["a"] * 9, ("a",) * 9, ["a"] * 100]
        + [["a", text] for text in BAD_TEXTS]
        + [(text, "b") for text in BAD_TEXTS]
        + [[thing] for thing in no_texts()]
        + [("a", thing) for thing in no_texts()]
    )


def no_wholes():
    """Things that are no whole numbers, some of them equal to one."""
    return [
        True, False, None, "", "1", "a", b"", b"1", [], [1], (), (1,), (1, 2), {}, {1: 1}, {1}, frozenset([1]),
        1.0, 0.0, 1.5, float("inf"), float("nan"), 1 + 0j, Fraction(1), Decimal(1),
        range(1), iter([1]), object(), Odd(), Sharp(), int, len, NotImplemented, ...,
    ]


def no_leaf_numbers():
    """Things that are no number of a leaf."""
    edge = 10 ** 30
    return no_wholes() + [edge, -edge, edge + 1, -edge - 1, 10 ** 31, -(10 ** 31), 10 ** 100, -(10 ** 100)]


def label(thing):
    """A thing's kind, and what it is where that can surely be shown."""
    if isinstance(thing, (str, bytes, int, float, type(None))):
        return type(thing).__name__ + " " + ascii(thing)[:40]
    return type(thing).__name__


def names(count):
    """As many different names as count tells, the longest of eight letters."""
    return [string.ascii_lowercase[at:at + at % 8 + 1] for at in range(count)]


def pile_picture(pile):
    """All that a pile tells of its boxes."""
    return (pile.made, [(box, pile.content(box), pile.holders(box)) for box in pile.kept()])


def store_picture(store):
    """All that a store tells of its boxes and snapshots."""
    shots = [(shot, store.top(shot)) for shot in store.shot_numbers()]
    return (pile_picture(store.pile), store.top(None), shots)


def built(leaves):
    """A store with the leaves that a dict of written paths and numbers tells."""
    store = Store()
    for line, number in leaves.items():
        store.put(read(line), number)
    return store


class Numbers:
    """Numbers that look mixed and are the same in each run."""

    def __init__(self, seed):
        self.last = seed

    def below(self, limit):
        self.last = (self.last * 6364136223846793005 + 1442695040888963407) % 2 ** 64
        return (self.last >> 33) % limit

    def one_of(self, things):
        return things[self.below(len(things))]
