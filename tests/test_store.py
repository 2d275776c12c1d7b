"""The store as a whole: its interface, and two stores beside each other (points 1 and 7)."""

import unittest

from helpers import built, store_picture
from snaptree.errors import LeafThere, NoShot, Nothing
from snaptree.pile import Pile
from snaptree.store import Store


class ApartTest(unittest.TestCase):
    def test_two_stores_know_nothing_of_each_other(self):
        one, other = Store(), Store()
        one.put(["a", "b"], 1)
        one.snap()
        one.put(["c"], 2)
        self.assertEqual(store_picture(other), store_picture(Store()))
        before = store_picture(one)
        self.assertEqual((other.put(["a"], 5), other.pile.made, other.top(None)), (1, 3, 3))
        self.assertRaises(NoShot, other.drop, 1)
        self.assertEqual((other.snap(), other.snap()), (1, 2))
        self.assertEqual((other.cut(["a"]), other.drop(1), other.back(2)), (0, 0, 1))
        self.assertEqual(store_picture(one), before)
        self.assertRaises(NoShot, one.value, 2, ["a"])
        self.assertEqual((one.value(1, ["a", "b"]), other.value(None, ["a"])), (1, 5))

    def test_each_store_has_a_pile_of_its_own(self):
        one, other = Store(), Store()
        self.assertIsNot(one.pile, other.pile)
        pile = Pile()
        pile.leaf(1)
        self.assertEqual((one.pile.made, other.pile.made), (1, 1))

    def test_the_same_deeds_give_the_same_stores(self):
        leaves = {"/a/b": 1, "/c": 2, "/a/d/e": 3}
        self.assertEqual(store_picture(built(leaves)), store_picture(built(leaves)))


class PileOfStoreTest(unittest.TestCase):
    def test_what_the_pile_tells_changed_by_hand(self):
        store = built({"/a": 1, "/b/c": 2})
        before = store_picture(store)
        store.pile.kept().clear()
        store.pile.content(store.top(None))[1].clear()
        store.pile.content(store.top(None))[1].append(("z", 1))
        self.assertEqual(store_picture(store), before)
        self.assertEqual(store.names(None, []), ["a", "b"])

    def test_the_pile_stays_the_same_object(self):
        store = Store()
        pile = store.pile
        store.put(["a"], 1)
        store.snap()
        store.cut(["a"])
        store.back(1)
        store.drop(1)
        self.assertIs(store.pile, pile)


class InterfaceTest(unittest.TestCase):
    def test_each_method_is_defined_in_the_class_itself(self):
        for name in ("put", "cut", "drop", "back", "snap", "shot_numbers",
                     "top", "kind", "value", "names", "changes"):
            with self.subTest(name=name):
                self.assertTrue(callable(vars(Store)[name]))
        self.assertEqual(Store.__module__, "snaptree.store")

    def test_fields_are_set_on_each_object(self):
        self.assertIs(type(vars(Store())["pile"]), Pile)
        self.assertEqual(vars(Pile())["made"], 0)

    def test_arguments_have_the_names_of_the_interface(self):
        store = Store()
        self.assertEqual(store.put(path=["a", "b"], number=4), 1)
        self.assertEqual((store.snap(), store.cut(path=["a", "b"])), (1, 0))
        self.assertEqual(store.top(view=1), 4)
        self.assertEqual(store.kind(view=1, path=["a"]), "branch")
        self.assertEqual(store.value(view=1, path=["a", "b"]), 4)
        self.assertEqual(store.names(view=1, path=["a"]), ["b"])
        self.assertEqual(store.changes(one=1, other=None), ([(["a", "b"], 4, None)], 3))
        self.assertEqual(store.back(shot=1), 2)
        self.assertEqual(store.drop(shot=1), 0)

    def test_numbers_told_are_whole_ones(self):
        store = Store()
        told = [store.put(["a"], 1), store.put(["a"], 1), store.snap(), store.cut(["a"]), store.back(1), store.drop(1),
                store.top(None), store.value(None, ["a"]), store.changes(None, None)[1], store.pile.made]
        self.assertEqual({type(number) for number in told}, {int})


class AllEndsTest(unittest.TestCase):
    def test_what_is_shared_is_held_until_the_last_that_reaches_it_has_ended(self):
        store = built({"/s/t": 1, "/a": 1})
        shared = dict(store.pile.content(store.top(None))[1])["s"]
        for number in range(2, 6):
            store.snap()
            store.put(["a"], number)
        store.cut(["s"])
        for shot in (2, 4, 1):
            store.drop(shot)
            self.assertIn(shared, store.pile.kept())
        self.assertEqual(store.pile.holders(shared), 1)
        # The leaf at /a, the top, the branch /s and the leaf below it.
        self.assertEqual(store.drop(3), 4)
        self.assertNotIn(shared, store.pile.kept())

    def test_a_leaf_stays_a_leaf_and_a_branch_a_branch(self):
        store = built({"/a": 1})
        self.assertRaises(LeafThere, store.put, ["a", "b"], 1)
        self.assertRaises(LeafThere, store.names, None, ["a"])
        self.assertRaises(Nothing, store.names, None, ["a", "b"])
        store.cut(["a"])
        self.assertEqual((store.put(["a", "b"], 1), store.kind(None, ["a"])), (1, "branch"))


if __name__ == "__main__":
    unittest.main()
