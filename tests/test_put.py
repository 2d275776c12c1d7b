"""A new store, and put (points 3, 5, 7, 8, 11 and 14)."""

import unittest

from helpers import built, label, names, no_leaf_numbers, no_paths, store_picture
from snaptree.errors import BadNumber, BadPath, BranchThere, LeafThere
from snaptree.paths import written
from snaptree.store import Store

EDGE = 10 ** 30


class NewStoreTest(unittest.TestCase):
    def test_a_new_store(self):
        store = Store()
        self.assertEqual((store.pile.made, store.pile.kept()), (1, [1]))
        self.assertEqual((store.pile.content(1), store.pile.holders(1)), (("branch", []), 1))
        self.assertEqual((store.top(None), store.shot_numbers()), (1, []))
        self.assertEqual((store.kind(None, []), store.names(None, [])), ("branch", []))


class FirstPutTest(unittest.TestCase):
    def test_paths_of_one_to_eight_names(self):
        for count in range(1, 9):
            for path in (names(count), tuple(names(count))):
                store = Store()
                with self.subTest(path=path):
                    # The branch without names in box 1 is gone.
                    self.assertEqual(store.put(path, 70), 1)
                    self.check_line(store, names(count))

    def check_line(self, store, path):
        """Each box leads to the one before: the leaf in box 2, the branches from 3 up to the top."""
        top = len(path) + 2
        self.assertEqual((store.pile.made, store.top(None)), (top, top))
        self.assertEqual(store.pile.kept(), list(range(2, top + 1)))
        self.assertEqual(store.pile.content(2), ("leaf", 70))
        for box in range(3, top + 1):
            self.assertEqual(store.pile.content(box), ("branch", [(path[top - box], box - 1)]))
        for box in store.pile.kept():
            self.assertEqual(store.pile.holders(box), 1)
        self.assertEqual(store.value(None, path), 70)

    def test_the_same_name_many_times(self):
        store = Store()
        self.assertEqual(store.put(["a"] * 8, 5), 1)
        self.assertEqual((store.pile.made, store.value(None, ["a"] * 8)), (10, 5))

    def test_numbers_at_the_edges(self):
        for number in (0, 1, -1, EDGE - 1, 1 - EDGE):
            store = Store()
            with self.subTest(number=number):
                self.assertEqual(store.put(["a"], number), 1)
                self.assertEqual(store.pile.content(2), ("leaf", number))
                self.assertEqual(store.value(None, ["a"]), number)

    def test_the_path_handed_in_stays_and_can_be_changed_afterwards(self):
        store = Store()
        path = ["a", "b"]
        store.put(path, 1)
        self.assertEqual(path, ["a", "b"])
        path[0] = "z"
        path.append("c")
        self.assertEqual((store.value(None, ["a", "b"]), store.names(None, [])), (1, ["a"]))


class SecondPutTest(unittest.TestCase):
    def test_the_same_number_once_more_makes_and_changes_nothing(self):
        for number in (0, 5, -5, EDGE - 1, 1 - EDGE):
            for count in range(1, 9):
                store = built({written(names(count)): number, "/zz": 1})
                before = store_picture(store)
                with self.subTest(number=number, count=count):
                    self.assertEqual(store.put(names(count), number), 0)
                    self.assertEqual(store.put(tuple(names(count)), number), 0)
                    self.assertEqual(store_picture(store), before)

    def test_another_number_at_the_same_path(self):
        store = Store()
        store.put(["a", "b", "c"], 1)
        # Boxes 2 to 5, the leaf and three branches, are all gone by it.
        self.assertEqual(store.put(["a", "b", "c"], 2), 4)
        self.assertEqual(store.pile.kept(), [6, 7, 8, 9])
        self.assertEqual([store.pile.content(box) for box in (6, 7, 8, 9)],
                         [("leaf", 2), ("branch", [("c", 6)]), ("branch", [("b", 7)]), ("branch", [("a", 8)])])
        self.assertEqual((store.top(None), store.pile.made), (9, 9))

    def test_a_number_that_was_there_before(self):
        store = Store()
        store.put(["a"], 1)
        store.put(["a"], 2)
        self.assertEqual((store.put(["a"], 1), store.pile.kept(), store.pile.made), (2, [6, 7], 7))

    def test_numbers_that_differ_in_their_sign_alone(self):
        store = Store()
        store.put(["a"], 7)
        self.assertEqual((store.put(["a"], -7), store.value(None, ["a"])), (2, -7))

    def test_the_same_number_at_another_path_gets_a_box_of_its_own(self):
        store = Store()
        store.put(["a"], 1)
        self.assertEqual(store.put(["b"], 1), 1)
        self.assertEqual(store.pile.content(store.top(None)), ("branch", [("a", 2), ("b", 4)]))

    def test_a_path_beside_it(self):
        store = Store()
        store.put(["m", "m"], 1)
        self.assertEqual(store.pile.kept(), [2, 3, 4])
        # Of boxes 2 to 4, the leaf stays, which the new branch leads to.
        self.assertEqual(store.put(["m", "k"], 2), 2)
        self.assertEqual(store.pile.kept(), [2, 5, 6, 7])
        self.assertEqual(store.pile.content(5), ("leaf", 2))
        self.assertEqual(store.pile.content(6), ("branch", [("k", 5), ("m", 2)]))
        self.assertEqual(store.pile.content(7), ("branch", [("m", 6)]))
        self.assertEqual([store.pile.holders(box) for box in (2, 5, 6, 7)], [1, 1, 1, 1])

    def test_a_path_beneath_a_branch_that_is_there(self):
        store = Store()
        store.put(["m", "m"], 1)
        # A whole way below /m is new: leaf 5, branches 6 and 7, then /m in 8 and the top in 9.
        self.assertEqual(store.put(["m", "z", "a", "b"], 2), 2)
        self.assertEqual(store.pile.kept(), [2, 5, 6, 7, 8, 9])
        self.assertEqual(store.pile.content(6), ("branch", [("b", 5)]))
        self.assertEqual(store.pile.content(7), ("branch", [("a", 6)]))
        self.assertEqual(store.pile.content(8), ("branch", [("m", 2), ("z", 7)]))
        self.assertEqual(store.pile.content(9), ("branch", [("m", 8)]))

    def test_what_stands_beside_the_way_is_not_made_anew(self):
        store = built({"/a/a": 1, "/b/a": 2, "/c/a": 3})
        before = dict(store.pile.content(store.top(None))[1])
        store.put(["b", "b"], 4)
        behind = dict(store.pile.content(store.top(None))[1])
        self.assertEqual((behind["a"], behind["c"]), (before["a"], before["c"]))
        self.assertGreater(behind["b"], before["b"])

    def test_names_are_told_in_order_whatever_was_put_first(self):
        store = Store()
        for name in ("q", "c", "z", "a", "qa", "b"):
            store.put([name], 1)
        self.assertEqual(store.names(None, []), ["a", "b", "c", "q", "qa", "z"])

    def test_a_path_beneath_a_branch_without_names(self):
        store = built({"/a/b": 1})
        store.cut(["a", "b"])
        empty = store.pile.content(store.top(None))[1][0][1]
        made = store.pile.made
        self.assertEqual(store.put(["a", "c"], 2), 2)
        self.assertNotIn(empty, store.pile.kept())
        self.assertEqual(store.pile.content(made + 2), ("branch", [("c", made + 1)]))
        self.assertEqual(store.pile.made, made + 3)

    def test_a_name_that_was_cut_is_put_once_more(self):
        store = built({"/a/b": 1})
        store.cut(["a"])
        self.assertEqual((store.put(["a"], 6), store.value(None, ["a"])), (1, 6))

    def test_many_names_in_one_branch(self):
        store = Store()
        paths = [["k", x + y] for x in "hgfedcba" for y in "stuvwxyz"]
        for number, path in enumerate(paths):
            store.put(path, number)
        self.assertEqual(store.names(None, ["k"]), sorted(path[1] for path in paths))
        self.assertEqual([store.value(None, path) for path in paths], list(range(64)))
        self.assertEqual((store.pile.made, len(store.pile.kept())), (1 + 3 * 64, 66))


class RefusalTest(unittest.TestCase):
    def setUp(self):
        self.store = built({"/a/b/c": 1, "/a/d": 2, "/e": 3, "/f/g": 4})
        self.store.snap()
        self.store.cut(["f", "g"])
        self.picture = store_picture(self.store)

    def refuses(self, error, path, number):
        with self.assertRaises(error) as held:
            self.store.put(path, number)
        self.assertIs(type(held.exception), error)
        self.assertEqual(store_picture(self.store), self.picture)

    def test_no_paths(self):
        for path in no_paths():
            with self.subTest(path=label(path)):
                self.refuses(BadPath, path, 5)

    def test_the_empty_path(self):
        self.refuses(BadPath, [], 5)
        self.refuses(BadPath, (), 5)

    def test_no_numbers(self):
        for number in no_leaf_numbers():
            with self.subTest(number=label(number)):
                self.refuses(BadNumber, ["n"], number)
                self.refuses(BadNumber, ("n", "n", "n"), number)

    def test_a_leaf_on_the_way(self):
        for path in (["e", "x"], ["e", "x", "y", "z"], ["a", "d", "x"], ("a", "b", "c", "d"), ["e", "e"]):
            with self.subTest(path=path):
                self.refuses(LeafThere, path, 5)
                self.refuses(LeafThere, path, 3)

    def test_a_branch_at_the_path(self):
        # The branch /f has no names left, and is one all the same.
        for path in (["a"], ["a", "b"], ("a",), ["f"]):
            with self.subTest(path=path):
                self.refuses(BranchThere, path, 5)

    def test_the_path_is_refused_before_the_number(self):
        for path in ([], (), None, ["A"], "e", ["a"] * 9):
            for number in (True, None, EDGE):
                self.refuses(BadPath, path, number)

    def test_the_path_is_refused_before_what_stands_there(self):
        for path in (["e", "X"], ["e"] * 9, ["a", "d", ""], ["a", "b", None]):
            self.refuses(BadPath, path, 5)
            self.refuses(BadPath, tuple(path), True)

    def test_the_number_is_refused_before_what_stands_there(self):
        for path in (["e", "x"], ["a"], ["a", "b"], ["f"], ["e"]):
            for number in (True, None, EDGE, "1"):
                self.refuses(BadNumber, path, number)

    def test_true_is_refused_where_one_stands_and_false_where_nought(self):
        store = built({"/a": 1, "/b": 0})
        for path, number in ((["a"], True), (["b"], False), (["a"], 1.0)):
            self.assertRaises(BadNumber, store.put, path, number)

    def test_a_refused_path_stays_as_it_was(self):
        for error, path, number in ((BadPath, ["a", "B"], 1), (BadNumber, ["n"], EDGE),
                                    (LeafThere, ["e", "x"], 1), (BranchThere, ["a"], 1)):
            before = list(path)
            self.refuses(error, path, number)
            self.assertEqual(path, before)

    def test_the_next_numbers_are_the_next_ones_behind_refusals(self):
        made = self.store.pile.made
        self.refuses(LeafThere, ["e", "x"], 5)
        self.refuses(BranchThere, ["a"], 5)
        self.store.put(["n"], 5)
        self.assertEqual((self.store.pile.content(made + 1), self.store.pile.made), (("leaf", 5), made + 2))
        self.assertEqual(self.store.snap(), 2)


if __name__ == "__main__":
    unittest.main()
