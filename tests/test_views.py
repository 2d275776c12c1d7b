"""kind, value, names and top of views (points 11, 12 and 14)."""

import unittest

from helpers import built, label, no_paths, no_wholes, store_picture
from snaptree.errors import BadPath, BranchThere, LeafThere, NoShot, Nothing

# Views that are none: an ended snapshot, numbers of no snapshot, and things of other kinds.
NO_SHOTS = [2, 0, -1, 4, 1000, 10 ** 40, -(10 ** 40)]


def no_views():
    return NO_SHOTS + [thing for thing in no_wholes() if thing is not None]


class ViewCase(unittest.TestCase):
    def setUp(self):
        self.store = built({"/a/b": 1, "/a/c/d": 2, "/e": 0})
        self.store.snap()
        self.store.snap()
        self.store.cut(["a", "c", "d"])
        self.store.put(["e"], 30)
        self.store.put(["f"], 4)
        self.store.cut(["a", "b"])
        self.store.put(["a", "b", "b"], -5)
        self.store.snap()
        self.store.cut(["a"])
        self.store.drop(2)
        self.picture = store_picture(self.store)

    def refuses(self, error, method, *rest):
        with self.assertRaises(error) as held:
            method(*rest)
        self.assertIs(type(held.exception), error)
        self.assertEqual(store_picture(self.store), self.picture)


class KindTest(ViewCase):
    def test_the_top(self):
        for view in (None, 1, 3):
            self.assertEqual((self.store.kind(view, []), self.store.kind(view, ())), ("branch", "branch"))

    def test_leaves_and_branches_in_each_view(self):
        kinds = {
            ("a",): (None, "branch", "branch"),
            ("a", "b"): (None, "leaf", "branch"),
            ("a", "b", "b"): (None, None, "leaf"),
            ("a", "c"): (None, "branch", "branch"),
            ("a", "c", "d"): (None, "leaf", None),
            ("e",): ("leaf", "leaf", "leaf"),
            ("f",): ("leaf", None, "leaf"),
        }
        for path, told in kinds.items():
            with self.subTest(path=path):
                self.assertEqual(tuple(self.store.kind(view, path) for view in (None, 1, 3)), told)
                self.assertEqual(tuple(self.store.kind(view, list(path)) for view in (None, 1, 3)), told)

    def test_beside_and_below_them(self):
        for path in (["b"], ["aa"], ["a", "a"], ["a", "bb"], ["e", "e"], ["e", "x", "y"], ["f", "a"], ["g"],
                     ["a", "c", "d", "d"], ["a", "b", "b", "b"], ["x"] * 8, ["e"] * 8):
            for view in (None, 1, 3):
                with self.subTest(path=path, view=view):
                    self.assertIsNone(self.store.kind(view, path))

    def test_refusals(self):
        for view in no_views():
            with self.subTest(view=label(view)):
                self.refuses(NoShot, self.store.kind, view, ["e"])
                self.refuses(NoShot, self.store.kind, view, ["E"])
                self.refuses(NoShot, self.store.kind, view, None)
        for path in no_paths():
            with self.subTest(path=label(path)):
                self.refuses(BadPath, self.store.kind, None, path)
                self.refuses(BadPath, self.store.kind, 1, path)


class ValueTest(ViewCase):
    def test_leaves_in_each_view(self):
        self.assertEqual([self.store.value(view, ["e"]) for view in (None, 1, 3)], [30, 0, 30])
        self.assertEqual([self.store.value(view, ("f",)) for view in (None, 3)], [4, 4])
        self.assertEqual((self.store.value(1, ["a", "b"]), self.store.value(1, ("a", "c", "d"))), (1, 2))
        self.assertEqual(self.store.value(3, ["a", "b", "b"]), -5)

    def test_nothing_there(self):
        for view, path in ((None, ["a"]), (None, ["a", "b"]), (None, ["x"]), (1, ["f"]), (1, ["a", "b", "b"]),
                           (1, ["e", "e"]), (3, ["a", "c", "d"]), (3, ["f", "f", "f"]), (None, ["e", "x"])):
            with self.subTest(view=view, path=path):
                self.refuses(Nothing, self.store.value, view, path)
                self.refuses(Nothing, self.store.value, view, tuple(path))

    def test_a_branch_there(self):
        for view, path in ((None, []), (1, ()), (3, []), (1, ["a"]), (1, ["a", "c"]), (3, ["a", "b"]), (3, ["a", "c"])):
            with self.subTest(view=view, path=path):
                self.refuses(BranchThere, self.store.value, view, path)

    def test_refusals(self):
        for view in no_views():
            with self.subTest(view=label(view)):
                for path in (["e"], ["x"], [], ["E"], None, ["e"] * 9):
                    self.refuses(NoShot, self.store.value, view, path)
        for path in no_paths():
            with self.subTest(path=label(path)):
                self.refuses(BadPath, self.store.value, None, path)
                self.refuses(BadPath, self.store.value, 1, path)


class NamesTest(ViewCase):
    def test_branches_in_each_view(self):
        self.assertEqual([self.store.names(view, []) for view in (None, 1, 3)],
                         [["e", "f"], ["a", "e"], ["a", "e", "f"]])
        self.assertEqual([self.store.names(view, ("a",)) for view in (1, 3)], [["b", "c"], ["b", "c"]])
        self.assertEqual([self.store.names(view, ["a", "c"]) for view in (1, 3)], [["d"], []])
        self.assertEqual(self.store.names(3, ["a", "b"]), ["b"])

    def test_nothing_there(self):
        for view, path in ((None, ["a"]), (None, ["x"]), (1, ["f"]), (1, ["a", "b", "b"]), (1, ["e", "e"]),
                           (3, ["a", "c", "d"]), (3, ["f", "f", "f"])):
            with self.subTest(view=view, path=path):
                self.refuses(Nothing, self.store.names, view, path)
                self.refuses(Nothing, self.store.names, view, tuple(path))

    def test_a_leaf_there(self):
        for view, path in ((None, ["e"]), (None, ["f"]), (1, ["a", "b"]), (1, ("e",)), (3, ["a", "b", "b"])):
            with self.subTest(view=view, path=path):
                self.refuses(LeafThere, self.store.names, view, path)

    def test_refusals(self):
        for view in no_views():
            with self.subTest(view=label(view)):
                for path in ([], ["e"], ["x"], ["E"], None, ["e"] * 9):
                    self.refuses(NoShot, self.store.names, view, path)
        for path in no_paths():
            with self.subTest(path=label(path)):
                self.refuses(BadPath, self.store.names, None, path)
                self.refuses(BadPath, self.store.names, 1, path)

    def test_the_list_told_is_a_new_one(self):
        for view in (None, 1):
            told = self.store.names(view, [])
            before = list(told)
            told.append("zz")
            told[0] = "zz"
            self.assertEqual(self.store.names(view, []), before)


class TopTest(ViewCase):
    def test_top_boxes(self):
        tops = [self.store.top(view) for view in (None, 1, 3)]
        self.assertEqual(len(set(tops)), 3)
        for top in tops:
            self.assertEqual((self.store.pile.content(top)[0], self.store.pile.holders(top)), ("branch", 1))

    def test_refusals(self):
        for view in no_views():
            with self.subTest(view=label(view)):
                self.refuses(NoShot, self.store.top, view)


class OrderTest(ViewCase):
    def test_the_path_is_refused_before_what_stands_there(self):
        for path in (["e", "X"], ["e"] * 9, ["x", ""], ["x"] * 9, ["a", None]):
            for view in (None, 1, 3):
                for method in (self.store.kind, self.store.value, self.store.names):
                    with self.subTest(path=path, view=view, method=method.__name__):
                        self.refuses(BadPath, method, view, path)
                        self.refuses(BadPath, method, view, tuple(path))


class NothingChangesTest(ViewCase):
    def test_reading_changes_nothing(self):
        path = ["a", "b"]
        for view in (None, 1, 3):
            self.store.kind(view, path)
            self.store.names(view, [])
            self.store.value(view, ["e"])
            self.store.top(view)
            self.store.shot_numbers()
        self.assertEqual(path, ["a", "b"])
        self.assertEqual(store_picture(self.store), self.picture)

    def test_a_refused_path_stays_as_it_was(self):
        path = ["a", "B"]
        for method in (self.store.kind, self.store.value, self.store.names):
            self.refuses(BadPath, method, None, path)
        self.assertEqual(path, ["a", "B"])


if __name__ == "__main__":
    unittest.main()
