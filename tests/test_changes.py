"""changes (points 1, 12 and 13)."""

import unittest

from helpers import built, label, no_wholes, store_picture
from snaptree.errors import NoShot
from snaptree.store import Store


class AlikeTest(unittest.TestCase):
    def test_one_view_with_itself(self):
        store = built({"/a/b": 1, "/c": 2})
        store.snap()
        self.assertEqual((store.changes(None, None), store.changes(1, 1)), (([], 0), ([], 0)))

    def test_views_with_the_same_top_box(self):
        store = built({"/a/b": 1, "/c": 2})
        store.snap()
        store.snap()
        for one in (None, 1, 2):
            for other in (None, 1, 2):
                self.assertEqual(store.changes(one, other), ([], 0))

    def test_two_empty_trees(self):
        store = Store()
        store.snap()
        store.put(["a"], 1)
        store.cut(["a"])
        # The tops are two boxes, so that the top is looked at.
        self.assertEqual((store.changes(1, None), store.changes(None, 1)), (([], 1), ([], 1)))

    def test_the_same_leaf_in_two_boxes(self):
        store = built({"/a/b": 1, "/c": 2})
        store.snap()
        store.cut(["a"])
        store.put(["a", "b"], 1)
        # The top, /a and /a/b lead to other boxes now, /c to the same one.
        self.assertEqual((store.changes(1, None), store.changes(None, 1)), (([], 3), ([], 3)))

    def test_back_to_the_snapshot(self):
        store = built({"/a": 1})
        store.snap()
        store.put(["a"], 2)
        store.back(1)
        self.assertEqual(store.changes(1, None), ([], 0))


class OneLeafTest(unittest.TestCase):
    def setUp(self):
        self.store = built({"/a/b": 1, "/a/c": 2, "/d/e": 3, "/f": 4})
        self.store.snap()

    def told(self, rows, looked):
        """The changes from the snapshot to the tree, and the same the other way round."""
        self.assertEqual(self.store.changes(1, None), (rows, looked))
        self.assertEqual(self.store.changes(None, 1), ([(path, new, old) for path, old, new in rows], looked))

    def test_another_number(self):
        self.store.put(["a", "c"], 20)
        self.told([(["a", "c"], 2, 20)], 3)

    def test_another_number_in_the_top(self):
        self.store.put(["f"], -4)
        self.told([(["f"], 4, -4)], 2)

    def test_nought_is_a_number(self):
        self.store.put(["f"], 0)
        self.told([(["f"], 4, 0)], 2)
        self.store.put(["g"], 0)
        self.told([(["f"], 4, 0), (["g"], None, 0)], 3)

    def test_a_new_leaf(self):
        self.store.put(["a", "bb"], 5)
        self.told([(["a", "bb"], None, 5)], 3)

    def test_a_new_leaf_far_down(self):
        self.store.put(["x"] * 8, 5)
        self.told([(["x"] * 8, None, 5)], 9)

    def test_a_leaf_that_was_cut(self):
        self.store.cut(["a", "b"])
        self.told([(["a", "b"], 1, None)], 3)

    def test_the_last_leaf_of_a_branch(self):
        self.store.cut(["d", "e"])
        self.told([(["d", "e"], 3, None)], 3)

    def test_a_branch_that_was_cut(self):
        self.store.cut(["a"])
        # The top, /a, /a/b and /a/c.
        self.told([(["a", "b"], 1, None), (["a", "c"], 2, None)], 4)

    def test_a_branch_without_names_that_was_cut(self):
        self.store.cut(["d", "e"])
        self.store.snap()
        self.store.cut(["d"])
        self.assertEqual((self.store.changes(2, None), self.store.changes(None, 2)), (([], 2), ([], 2)))

    def test_a_leaf_where_a_branch_was(self):
        self.store.cut(["a"])
        self.store.put(["a"], 7)
        # The path of the leaf comes before those below it.
        self.told([(["a"], None, 7), (["a", "b"], 1, None), (["a", "c"], 2, None)], 4)

    def test_a_branch_where_a_leaf_was(self):
        self.store.cut(["f"])
        self.store.put(["f", "g", "h"], 7)
        self.told([(["f"], 4, None), (["f", "g", "h"], None, 7)], 4)

    def test_a_branch_without_names_where_a_leaf_was(self):
        self.store.cut(["f"])
        self.store.put(["f", "g"], 7)
        self.store.cut(["f", "g"])
        self.told([(["f"], 4, None)], 2)


class ManyTest(unittest.TestCase):
    def test_rows_are_in_the_order_of_their_paths(self):
        store = Store()
        store.snap()
        paths = [["b"], ["a", "z"], ["ab"], ["a", "b", "c"], ["a", "ba"], ["abc", "a"], ["aa"], ["c", "a"], ["a", "b", "b"]]
        for number, path in enumerate(paths):
            store.put(path, number)
        rows, looked = store.changes(1, None)
        self.assertEqual(rows, [(path, None, paths.index(path)) for path in sorted(paths)])
        self.assertEqual(rows[0], (["a", "b", "b"], None, 8))
        # The top, nine leaves, and the branches /a, /a/b, /abc and /c.
        self.assertEqual(looked, 14)

    def test_a_name_that_another_begins_with_comes_first_with_all_below_it(self):
        store = built({"/a/z": 1, "/aa": 2})
        store.snap()
        store.put(["a", "z"], 3)
        store.put(["aa"], 4)
        self.assertEqual(store.changes(1, None), ([(["a", "z"], 1, 3), (["aa"], 2, 4)], 4))

    def test_only_what_leads_to_another_box_is_looked_at(self):
        store = Store()
        for x in "abcdefgh":
            for y in "abcdefgh":
                store.put(["k", x, y], 1)
        store.snap()
        store.put(["k", "c", "d"], 2)
        store.put(["k", "c", "a"], 3)
        store.put(["k", "f", "h"], 4)
        store.put(["l"], 5)
        rows = [(["k", "c", "a"], 1, 3), (["k", "c", "d"], 1, 2), (["k", "f", "h"], 1, 4), (["l"], None, 5)]
        self.assertEqual(store.changes(1, None), (rows, 8))

    def test_between_two_snapshots(self):
        store = built({"/a": 1, "/b": 2, "/c": 3})
        store.snap()
        store.put(["a"], 10)
        store.snap()
        store.put(["b"], 20)
        store.snap()
        store.cut(["c"])
        self.assertEqual(store.changes(1, 2), ([(["a"], 1, 10)], 2))
        self.assertEqual(store.changes(2, 3), ([(["b"], 2, 20)], 2))
        self.assertEqual(store.changes(3, 1), ([(["a"], 10, 1), (["b"], 20, 2)], 3))
        self.assertEqual(store.changes(1, None), ([(["a"], 1, 10), (["b"], 2, 20), (["c"], 3, None)], 4))

    def test_from_the_empty_tree_and_to_it(self):
        store = Store()
        store.snap()
        store.put(["a", "b"], 1)
        store.put(["c"], 2)
        self.assertEqual(store.changes(1, None), ([(["a", "b"], None, 1), (["c"], None, 2)], 4))
        self.assertEqual(store.changes(None, 1), ([(["a", "b"], 1, None), (["c"], 2, None)], 4))


class ToldTest(unittest.TestCase):
    def setUp(self):
        self.store = built({"/a": 1, "/b/c": 2})
        self.store.snap()
        self.store.cut(["a"])
        self.store.put(["a", "d"], 3)

    def test_kinds_of_what_is_told(self):
        told = self.store.changes(1, None)
        self.assertEqual(told, ([(["a"], 1, None), (["a", "d"], None, 3)], 3))
        self.assertEqual([type(thing) for thing in told], [list, int])
        self.assertIs(type(told), tuple)
        for row in told[0]:
            self.assertEqual((type(row), type(row[0])), (tuple, list))

    def test_the_lists_told_are_new_ones(self):
        before = self.store.changes(1, None)
        rows, _ = self.store.changes(1, None)
        rows[0][0].append("zz")
        self.assertEqual(rows[1][0], ["a", "d"])
        rows.clear()
        self.assertEqual(self.store.changes(1, None), before)
        self.store.changes(1, 1)[0].append("zz")
        self.assertEqual(self.store.changes(1, 1), ([], 0))

    def test_nothing_changes_by_it(self):
        before = store_picture(self.store)
        self.store.changes(1, None)
        self.store.changes(None, 1)
        self.assertEqual(store_picture(self.store), before)


class RefusalTest(unittest.TestCase):
    def test_no_views(self):
        store = built({"/a": 1})
        store.snap()
        store.snap()
        store.put(["a"], 2)
        store.drop(2)
        before = store_picture(store)
        for thing in [2, 0, -1, 3, 10 ** 40] + [thing for thing in no_wholes() if thing is not None]:
            for pair in ((thing, None), (None, thing), (thing, 1), (1, thing), (thing, thing)):
                with self.subTest(thing=label(thing)):
                    with self.assertRaises(NoShot) as held:
                        store.changes(*pair)
                    self.assertIs(type(held.exception), NoShot)
                    self.assertEqual(store_picture(store), before)


if __name__ == "__main__":
    unittest.main()
