"""cut (points 9, 11 and 14)."""

import unittest

from helpers import built, label, names, no_paths, store_picture
from snaptree.errors import BadPath, Nothing
from snaptree.paths import written
from snaptree.store import Store


class CutTest(unittest.TestCase):
    def test_a_leaf_in_the_top(self):
        store = built({"/a": 1, "/b": 2})
        # Boxes: leaf 2, top 3, leaf 4, top 5.
        self.assertEqual(store.cut(["a"]), 2)
        self.assertEqual(store.pile.kept(), [4, 6])
        self.assertEqual((store.top(None), store.pile.made), (6, 6))
        self.assertEqual(store.pile.content(6), ("branch", [("b", 4)]))
        self.assertEqual(store.pile.holders(4), 1)

    def test_a_leaf_further_down(self):
        store = built({"/a/b/c": 1, "/a/b/d": 2})
        # Boxes there: leaf 2, leaf 6, /a/b 7, /a 8, top 9.
        self.assertEqual(store.pile.kept(), [2, 6, 7, 8, 9])
        self.assertEqual(store.cut(("a", "b", "c")), 4)
        self.assertEqual(store.pile.kept(), [6, 10, 11, 12])
        self.assertEqual(store.pile.content(10), ("branch", [("d", 6)]))
        self.assertEqual(store.pile.content(11), ("branch", [("b", 10)]))
        self.assertEqual(store.pile.content(12), ("branch", [("a", 11)]))
        self.assertEqual((store.top(None), store.pile.made), (12, 12))

    def test_the_last_name_of_the_top(self):
        store = built({"/a": 1})
        self.assertEqual(store.cut(["a"]), 2)
        self.assertEqual((store.pile.kept(), store.pile.content(4)), ([4], ("branch", [])))
        self.assertEqual((store.top(None), store.names(None, [])), (4, []))

    def test_the_last_name_of_a_branch_leaves_the_branch(self):
        store = built({"/a/b": 1})
        # Boxes: leaf 2, /a 3, top 4.
        self.assertEqual(store.cut(["a", "b"]), 3)
        self.assertEqual(store.pile.kept(), [5, 6])
        self.assertEqual((store.pile.content(5), store.pile.content(6)), (("branch", []), ("branch", [("a", 5)])))
        self.assertEqual((store.kind(None, ["a"]), store.names(None, ["a"])), ("branch", []))
        self.assertIsNone(store.kind(None, ["a", "b"]))

    def test_a_branch_without_names(self):
        store = built({"/a/b": 1})
        store.cut(["a", "b"])
        self.assertEqual(store.cut(["a"]), 2)
        self.assertEqual((store.pile.kept(), store.pile.content(7)), ([7], ("branch", [])))

    def test_a_branch_with_much_below_it(self):
        store = Store()
        for x in "abc":
            for y in "abc":
                for z in "abc":
                    store.put(["k", x, y, z], 1)
        store.put(["l"], 2)
        # The top, /k, 3 and 9 branches and 27 leaves are gone; the leaf at /l and the new top are there.
        made = store.pile.made
        self.assertEqual(store.cut(["k"]), 41)
        self.assertEqual(len(store.pile.kept()), 2)
        self.assertEqual((store.pile.made, store.names(None, [])), (made + 1, ["l"]))

    def test_a_branch_that_a_snapshot_still_reaches(self):
        store = built({"/a/b": 1, "/c": 2})
        store.snap()
        kept = store.pile.kept()
        self.assertEqual(store.cut(["a"]), 0)
        self.assertEqual(store.pile.kept(), kept + [store.top(None)])
        self.assertEqual(store.value(1, ["a", "b"]), 1)

    def test_paths_of_one_to_eight_names(self):
        for count in range(1, 9):
            for path in (names(count), tuple(names(count))):
                store = Store()
                store.put(path, 1)
                with self.subTest(path=path):
                    # The leaf and its branches are gone; as many branches are made, the lowest without names.
                    self.assertEqual(store.cut(path), count + 1)
                    self.check_line(store, names(count))

    def check_line(self, store, path):
        lowest = len(path) + 3
        top = lowest + len(path) - 1
        self.assertEqual(store.pile.kept(), list(range(lowest, top + 1)))
        self.assertEqual((store.top(None), store.pile.made), (top, top))
        self.assertEqual(store.pile.content(lowest), ("branch", []))
        for box in range(lowest + 1, top + 1):
            self.assertEqual(store.pile.content(box), ("branch", [(path[top - box], box - 1)]))
            self.assertEqual(store.pile.holders(box), 1)

    def test_what_stands_beside_the_way_is_not_made_anew(self):
        store = built({"/a/a": 1, "/b/a": 2, "/b/b": 3, "/c/a": 4})
        before = dict(store.pile.content(store.top(None))[1])
        store.cut(["b", "a"])
        behind = dict(store.pile.content(store.top(None))[1])
        self.assertEqual((behind["a"], behind["c"]), (before["a"], before["c"]))
        self.assertGreater(behind["b"], before["b"])

    def test_the_path_handed_in_stays_as_it_was(self):
        store = built({"/a/b": 1})
        path = ["a", "b"]
        store.cut(path)
        self.assertEqual(path, ["a", "b"])


class RefusalTest(unittest.TestCase):
    def setUp(self):
        self.store = built({"/a/b/c": 1, "/d": 2})
        self.store.snap()
        self.store.put(["e", "f"], 3)
        self.store.cut(["e", "f"])
        self.picture = store_picture(self.store)

    def refuses(self, error, path):
        with self.assertRaises(error) as held:
            self.store.cut(path)
        self.assertIs(type(held.exception), error)
        self.assertEqual(store_picture(self.store), self.picture)

    def test_no_paths(self):
        for path in no_paths():
            with self.subTest(path=label(path)):
                self.refuses(BadPath, path)

    def test_the_empty_path(self):
        self.refuses(BadPath, [])
        self.refuses(BadPath, ())
        self.assertRaises(BadPath, Store().cut, [])

    def test_nothing_there(self):
        for line in (["x"], ["a", "x"], ["a", "b", "x"], ["x", "b", "c"], ("a", "bb", "c"), ["e", "f"], ["f"]):
            with self.subTest(line=line):
                self.refuses(Nothing, line)

    def test_nothing_stands_below_a_leaf(self):
        for path in (["d", "d"], ["d", "x", "y"], ["a", "b", "c", "d"], ("d",) * 8):
            with self.subTest(path=path):
                self.refuses(Nothing, path)

    def test_no_path_that_begins_where_nothing_stands(self):
        self.refuses(BadPath, ["x", "X"])
        self.refuses(BadPath, ["x"] * 9)
        self.refuses(BadPath, ["d", "X"])
        self.refuses(BadPath, ["d"] * 9)

    def test_nothing_in_a_new_store(self):
        store = Store()
        self.assertRaises(Nothing, store.cut, ["a"])
        self.assertEqual((store.pile.made, store.top(None)), (1, 1))

    def test_what_was_cut_is_not_there_any_more(self):
        for count in range(1, 9):
            store = built({written(names(count)): 1})
            store.cut(names(count))
            self.assertRaises(Nothing, store.cut, names(count))

    def test_the_next_numbers_are_the_next_ones_behind_refusals(self):
        made = self.store.pile.made
        self.refuses(Nothing, ["x"])
        self.store.cut(["d"])
        self.assertEqual((self.store.top(None), self.store.pile.made), (made + 1, made + 1))
        self.assertEqual(self.store.snap(), 2)


if __name__ == "__main__":
    unittest.main()
