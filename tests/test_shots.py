"""snap, drop, back and shot_numbers (points 1, 7, 10, 11, 12 and 14)."""

import unittest
from itertools import permutations

from helpers import built, label, no_wholes, store_picture
from snaptree.errors import NoShot
from snaptree.store import Store

NO_SHOTS = [0, -1, 4, 1000, 10 ** 40, -(10 ** 40)]


class SnapTest(unittest.TestCase):
    def test_numbers_rise_from_one(self):
        store = Store()
        self.assertEqual([store.snap(), store.snap(), store.snap()], [1, 2, 3])
        self.assertEqual(store.shot_numbers(), [1, 2, 3])

    def test_no_number_is_used_again(self):
        store = Store()
        store.drop(store.snap())
        self.assertEqual((store.snap(), store.snap()), (2, 3))
        store.drop(3)
        self.assertEqual(store.snap(), 4)
        for shot in (2, 4):
            store.drop(shot)
        self.assertEqual((store.shot_numbers(), store.snap(), store.shot_numbers()), ([], 5, [5]))

    def test_no_box_is_made_or_ended(self):
        store = built({"/a/b": 1, "/c": 2})
        made, kept = store.pile.made, store.pile.kept()
        for _ in range(5):
            store.snap()
        self.assertEqual((store.pile.made, store.pile.kept()), (made, kept))

    def test_the_snapshots_top_is_the_trees_and_held_once_more(self):
        store = built({"/a/b": 1})
        top = store.top(None)
        for count in (2, 3, 4):
            shot = store.snap()
            self.assertEqual((store.top(shot), store.top(None), store.pile.holders(top)), (top, top, count))
        # What stands below is held by its rows alone.
        self.assertEqual([store.pile.holders(box) for box in store.pile.kept() if box != top], [1, 1])

    def test_tops_of_several_snapshots(self):
        store = Store()
        store.snap()
        store.put(["a"], 1)
        store.snap()
        store.snap()
        store.put(["a"], 2)
        self.assertEqual([store.top(view) for view in (1, 2, 3, None)], [1, 3, 3, 5])
        self.assertEqual([store.pile.holders(box) for box in (1, 3, 5)], [1, 2, 1])
        self.assertEqual(store.pile.kept(), [1, 2, 3, 4, 5])

    def test_shot_numbers_changed_by_hand(self):
        store = Store()
        store.snap()
        store.shot_numbers().append(9)
        store.shot_numbers().clear()
        self.assertEqual((store.shot_numbers(), store.snap()), ([1], 2))


class DropTest(unittest.TestCase):
    def test_a_snapshot_of_the_tree_as_it_is(self):
        store = built({"/a": 1})
        store.snap()
        self.assertEqual((store.drop(1), store.shot_numbers()), (0, []))
        self.assertEqual((store.pile.kept(), store.pile.holders(3)), ([2, 3], 1))
        self.assertEqual(store.value(None, ["a"]), 1)

    def test_a_snapshot_of_what_was_before(self):
        store = built({"/a/b": 1, "/c": 2})
        store.snap()
        store.put(["a", "b"], 3)
        # Gone are the leaf at /a/b, the branch /a and the top; the leaf at /c is shared.
        self.assertEqual((store.drop(1), len(store.pile.kept())), (3, 4))

    def test_one_of_two_that_are_alike(self):
        store = built({"/a": 1})
        store.snap()
        store.snap()
        store.cut(["a"])
        self.assertEqual((store.drop(1), store.value(2, ["a"])), (0, 1))
        self.assertEqual((store.drop(2), store.pile.kept()), (2, [store.top(None)]))

    def test_in_any_order(self):
        for order in permutations((1, 2, 3, 4)):
            store = Store()
            for number in range(1, 5):
                store.put(["a", "abcd"[number - 1]], number)
                store.put(["x"], number)
                store.snap()
            left = [1, 2, 3, 4]
            for shot in order:
                before = len(store.pile.kept())
                gone = store.drop(shot)
                left.remove(shot)
                with self.subTest(order=order, shot=shot):
                    self.assertEqual(store.shot_numbers(), left)
                    self.assertEqual(before - len(store.pile.kept()), gone)
                    for other in left:
                        self.assertEqual(store.names(other, ["a"]), list("abcd"[:other]))
                        self.assertEqual(store.value(other, ["x"]), other)
            self.assertEqual(len(store.pile.kept()), 7)

    def test_the_tree_stays_as_it_is(self):
        store = built({"/a": 1})
        store.snap()
        store.put(["a"], 2)
        top = store.top(None)
        store.drop(1)
        self.assertEqual((store.top(None), store.value(None, ["a"])), (top, 2))


class BackTest(unittest.TestCase):
    def test_the_tree_is_that_of_the_snapshot(self):
        store = built({"/a/b": 1, "/c": 2})
        store.snap()
        top = store.top(None)
        store.put(["a", "b"], 3)
        store.put(["d"], 4)
        made = store.pile.made
        # Gone are the leaves at /a/b and /d, the branch /a and the top that was the tree's.
        self.assertEqual(store.back(1), 4)
        self.assertEqual((store.top(None), store.top(1), store.pile.made), (top, top, made))
        self.assertEqual((store.pile.holders(top), store.shot_numbers()), (2, [1]))
        self.assertEqual((store.value(None, ["a", "b"]), store.names(None, [])), (1, ["a", "c"]))

    def test_back_to_a_snapshot_whose_tree_is_the_trees_own(self):
        store = built({"/a": 1})
        store.snap()
        before = store_picture(store)
        self.assertEqual((store.back(1), store.back(1)), (0, 0))
        self.assertEqual(store_picture(store), before)

    def test_back_and_forth(self):
        store = Store()
        for number in (1, 2, 3):
            store.put(["a"], number)
            store.snap()
        for shot in (1, 3, 2, 2, 1, 3):
            self.assertEqual((store.back(shot), store.value(None, ["a"])), (0, shot))
        self.assertEqual([store.pile.holders(store.top(shot)) for shot in (1, 2, 3)], [1, 1, 2])

    def test_deeds_behind_it_leave_the_snapshot_alone(self):
        store = built({"/a/b": 1})
        store.snap()
        store.cut(["a"])
        store.back(1)
        self.assertEqual((store.put(["a", "b"], 2), store.value(1, ["a", "b"])), (0, 1))
        self.assertEqual((store.back(1), store.put(["a", "b"], 1)), (3, 0))

    def test_the_snapshot_may_end_behind_it(self):
        store = built({"/a": 1})
        store.snap()
        store.put(["a"], 2)
        store.back(1)
        self.assertEqual((store.drop(1), store.value(None, ["a"]), store.pile.kept()), (0, 1, [2, 3]))

    def test_back_to_the_empty_tree(self):
        store = Store()
        store.snap()
        store.put(["a", "b"], 1)
        self.assertEqual((store.back(1), store.top(None), store.pile.kept()), (3, 1, [1]))


class OldSnapshotTest(unittest.TestCase):
    def test_old_snapshots_read_as_the_tree_was_then(self):
        store = Store()
        for number in range(60):
            store.put(["abcde"[number % 5], "fghi"[number % 4]], number)
            store.put(["n"], number)
            store.snap()
        store.cut(["n"])
        for name in "abcde":
            store.cut([name])
        self.assertEqual(store.names(None, []), [])
        for shot in range(1, 61):
            told = {}
            for number in range(shot):
                told[("abcde"[number % 5], "fghi"[number % 4])] = number
            with self.subTest(shot=shot):
                self.assertEqual(store.value(shot, ["n"]), shot - 1)
                self.assertEqual(store.names(shot, []), sorted({path[0] for path in told}) + ["n"])
                for path, number in told.items():
                    self.assertEqual(store.value(shot, path), number)
                for name in store.names(shot, [])[:-1]:
                    self.assertEqual(store.names(shot, [name]), sorted(path[1] for path in told if path[0] == name))

    def test_all_is_gone_when_all_snapshots_have_ended(self):
        store = Store()
        for number in range(40):
            store.put(["a", "b", "c"], number)
            store.snap()
        self.assertEqual(len(store.pile.kept()), 160)
        self.assertEqual([store.drop(shot) for shot in range(1, 41)], [4] * 39 + [0])
        self.assertEqual(len(store.pile.kept()), 4)


class RefusalTest(unittest.TestCase):
    def setUp(self):
        self.store = built({"/a": 1})
        for number in (1, 2, 3):
            self.store.snap()
            self.store.put(["a"], number + 1)
        self.store.drop(2)
        self.picture = store_picture(self.store)

    def refuses(self, method, *rest):
        with self.assertRaises(NoShot) as held:
            method(*rest)
        self.assertIs(type(held.exception), NoShot)
        self.assertEqual(store_picture(self.store), self.picture)

    def test_no_snapshots(self):
        for method in (self.store.drop, self.store.back):
            for thing in NO_SHOTS + [2] + no_wholes():
                with self.subTest(method=method.__name__, thing=label(thing)):
                    self.refuses(method, thing)

    def test_top_of_no_view(self):
        for thing in NO_SHOTS + [2] + no_wholes():
            if thing is not None:
                with self.subTest(thing=label(thing)):
                    self.refuses(self.store.top, thing)

    def test_a_box_is_no_snapshot(self):
        self.refuses(self.store.drop, self.store.top(None))
        self.refuses(self.store.back, self.store.top(None))

    def test_a_snapshot_ends_once(self):
        self.store.drop(1)
        self.picture = store_picture(self.store)
        self.refuses(self.store.drop, 1)
        self.refuses(self.store.back, 1)

    def test_the_next_number_is_the_next_one_behind_refusals(self):
        self.refuses(self.store.drop, 2)
        self.refuses(self.store.back, 4)
        self.assertEqual(self.store.snap(), 4)

    def test_a_new_store_has_none(self):
        for thing in [1] + NO_SHOTS + no_wholes():
            store = Store()
            self.assertRaises(NoShot, store.drop, thing)
            self.assertRaises(NoShot, store.back, thing)
            self.assertEqual((store.pile.kept(), store.pile.holders(1), store.snap()), ([1], 1, 1))


if __name__ == "__main__":
    unittest.main()
