"""The pile (points 1, 5 and 6, the interface of pile.py)."""

import unittest

from helpers import label, no_wholes, pile_picture
from snaptree.errors import NoBox
from snaptree.pile import Pile


class MakingTest(unittest.TestCase):
    def test_a_new_pile_has_no_boxes(self):
        pile = Pile()
        self.assertEqual((pile.made, pile.kept()), (0, []))

    def test_boxes_are_numbered_in_the_order_in_which_they_are_made(self):
        pile = Pile()
        self.assertEqual([pile.leaf(5), pile.branch([]), pile.leaf(5), pile.branch([("a", 1)])], [1, 2, 3, 4])
        self.assertEqual(pile.made, 4)

    def test_made_counts_each_box(self):
        pile = Pile()
        for number in range(1, 6):
            pile.leaf(0)
            self.assertEqual(pile.made, number)

    def test_no_number_is_used_again(self):
        pile = Pile()
        pile.leaf(1)
        pile.let_go(pile.leaf(2))
        self.assertEqual((pile.made, pile.leaf(3)), (2, 3))
        pile.let_go(1)
        pile.let_go(3)
        self.assertEqual((pile.made, pile.branch([]), pile.made), (3, 4, 4))

    def test_content_of_leaves(self):
        pile = Pile()
        for number in (0, 1, -1, 10 ** 30 - 1, -(10 ** 30) + 1):
            told = pile.content(pile.leaf(number))
            self.assertEqual(told, ("leaf", number))
            self.assertIs(type(told), tuple)

    def test_content_of_branches(self):
        pile = Pile()
        pile.leaf(8)
        pile.branch([])
        pile.branch([("a", 1), ("b", 2), ("c", 1)])
        self.assertEqual(pile.content(2), ("branch", []))
        told = pile.content(3)
        self.assertEqual(told, ("branch", [("a", 1), ("b", 2), ("c", 1)]))
        self.assertEqual([type(thing) for thing in (told, told[1], told[1][0])], [tuple, list, tuple])

    def test_content_stays_whatever_happens_to_counts(self):
        pile = Pile()
        pile.leaf(8)
        pile.branch([("a", 1)])
        pile.hold(2)
        pile.hold(2)
        pile.let_go(2)
        self.assertEqual((pile.content(1), pile.content(2)), (("leaf", 8), ("branch", [("a", 1)])))

    def test_a_new_box_is_held_by_nobody(self):
        pile = Pile()
        self.assertEqual([pile.holders(pile.leaf(4)), pile.holders(pile.branch([]))], [0, 0])
        self.assertEqual(pile.holders(pile.branch([("a", 1)])), 0)


class CountTest(unittest.TestCase):
    def setUp(self):
        self.pile = Pile()

    def counts(self):
        return {box: self.pile.holders(box) for box in self.pile.kept()}

    def test_hold_makes_the_count_one_more(self):
        self.pile.leaf(1)
        self.pile.leaf(2)
        for count in (1, 2, 3):
            self.assertIsNone(self.pile.hold(1))
            self.assertEqual(self.counts(), {1: count, 2: 0})

    def test_a_branch_holds_each_box_once_for_each_row(self):
        self.pile.leaf(1)
        self.pile.leaf(2)
        self.pile.branch([("a", 1), ("b", 2), ("c", 1), ("d", 1)])
        self.assertEqual(self.counts(), {1: 3, 2: 1, 3: 0})
        self.pile.branch([("a", 3), ("b", 1)])
        self.assertEqual(self.counts(), {1: 4, 2: 1, 3: 1, 4: 0})

    def test_let_go_makes_the_count_one_less(self):
        self.pile.leaf(1)
        for _ in range(3):
            self.pile.hold(1)
        self.assertEqual((self.pile.let_go(1), self.counts()), (0, {1: 2}))
        self.assertEqual((self.pile.let_go(1), self.counts()), (0, {1: 1}))
        self.assertEqual((self.pile.let_go(1), self.counts()), (1, {}))

    def test_a_box_that_nobody_holds_is_gone_when_it_is_let_go(self):
        self.pile.leaf(1)
        self.pile.branch([])
        self.assertEqual((self.pile.let_go(1), self.pile.kept()), (1, [2]))
        self.assertEqual((self.pile.let_go(2), self.pile.kept()), (1, []))

    def test_a_branch_that_nobody_holds_lets_go_what_it_held(self):
        self.pile.leaf(1)
        self.pile.branch([("a", 1)])
        self.assertEqual((self.pile.let_go(2), self.pile.kept()), (2, []))

    def test_a_branch_that_is_still_held_lets_nothing_go(self):
        self.pile.leaf(1)
        self.pile.branch([("a", 1)])
        self.pile.hold(2)
        self.pile.hold(2)
        self.assertEqual((self.pile.let_go(2), self.counts()), (0, {1: 1, 2: 1}))

    def test_one_box_by_several_names(self):
        self.pile.leaf(1)
        self.pile.branch([("a", 1), ("b", 1), ("c", 1)])
        self.assertEqual((self.pile.let_go(2), self.pile.kept()), (2, []))

    def test_one_box_by_several_names_and_held_besides(self):
        self.pile.leaf(1)
        self.pile.hold(1)
        self.pile.branch([("a", 1), ("b", 1)])
        self.assertEqual((self.pile.let_go(2), self.counts()), (1, {1: 1}))

    def test_a_box_held_by_two_branches(self):
        self.pile.leaf(1)
        self.pile.branch([("a", 1)])
        self.pile.branch([("b", 1)])
        self.assertEqual((self.pile.let_go(2), self.counts()), (1, {1: 1, 3: 0}))
        self.assertEqual((self.pile.let_go(3), self.counts()), (2, {}))

    def test_a_box_of_a_row_that_is_gone_already_is_passed_over(self):
        for _ in range(2):
            self.pile.leaf(1)
        self.pile.branch([("a", 1), ("b", 2)])
        self.assertEqual((self.pile.let_go(1), self.counts()), (1, {2: 1, 3: 0}))
        self.assertEqual(self.pile.content(3), ("branch", [("a", 1), ("b", 2)]))
        self.assertEqual((self.pile.let_go(3), self.pile.kept()), (2, []))

    def test_a_box_of_several_rows_that_is_gone_by_the_first_is_passed_over(self):
        self.pile.leaf(1)
        self.pile.branch([("a", 1), ("b", 1), ("c", 1)])
        self.assertEqual((self.pile.let_go(1), self.counts()), (0, {1: 2, 2: 0}))
        self.assertEqual((self.pile.let_go(2), self.pile.kept()), (2, []))

    def test_what_others_hold_stays(self):
        self.pile.leaf(1)
        self.pile.branch([("a", 1)])
        self.pile.branch([("b", 2)])
        self.pile.hold(2)
        self.assertEqual((self.pile.let_go(3), self.counts()), (1, {1: 1, 2: 1}))

    def test_kept_tells_the_boxes_that_are_there(self):
        for number in range(6):
            self.pile.leaf(number)
        self.pile.branch([("a", 5), ("b", 2)])
        for box in (4, 1, 6):
            self.pile.let_go(box)
        self.assertEqual(self.pile.kept(), [2, 3, 5, 7])
        self.pile.leaf(0)
        self.assertEqual(self.pile.kept(), [2, 3, 5, 7, 8])
        self.pile.let_go(7)
        self.assertEqual(self.pile.kept(), [3, 8])


class ManyTest(unittest.TestCase):
    def test_a_wide_branch(self):
        pile = Pile()
        letters = "abcdefghij"
        rows = [(x + y + z, pile.leaf(0)) for x in letters for y in letters for z in letters]
        top = pile.branch(rows)
        pile.hold(7)
        self.assertEqual((pile.let_go(top), pile.kept(), pile.holders(7)), (1000, [7], 1))

    def test_a_chain_of_several_thousand_branches(self):
        pile = Pile()
        box = pile.leaf(3)
        for _ in range(6000):
            box = pile.branch([("a", box)])
        self.assertEqual(pile.kept(), list(range(1, 6002)))
        self.assertEqual((pile.let_go(box), pile.kept(), pile.made), (6001, [], 6001))

    def test_a_chain_that_is_held_in_the_middle(self):
        pile = Pile()
        box = pile.leaf(3)
        for _ in range(6000):
            box = pile.branch([("a", box)])
        pile.hold(3001)
        self.assertEqual((pile.let_go(box), pile.kept()), (3000, list(range(1, 3002))))
        self.assertEqual(pile.holders(3001), 1)
        self.assertEqual((pile.let_go(3001), pile.kept()), (3001, []))

    def test_a_chain_in_which_each_branch_leads_twice_to_the_next(self):
        pile = Pile()
        box = pile.leaf(3)
        for _ in range(3000):
            box = pile.branch([("a", box), ("b", box)])
        self.assertEqual((pile.let_go(box), pile.kept()), (3001, []))

    def test_a_ladder_of_boxes_that_two_branches_share(self):
        pile = Pile()
        left, right = pile.leaf(1), pile.leaf(2)
        for _ in range(500):
            left, right = pile.branch([("a", left), ("b", right)]), pile.branch([("a", left), ("b", right)])
        self.assertEqual(pile.let_go(left), 1)
        self.assertEqual((pile.let_go(right), pile.kept()), (1001, []))


class FreedTest(unittest.TestCase):
    def test_a_pile_whose_boxes_are_all_gone_keeps_nothing_of_them(self):
        pile = Pile()
        new = {field: repr(value) for field, value in vars(pile).items() if field != "made"}
        box = pile.branch([("a", pile.leaf(1)), ("b", pile.leaf(2)), ("c", pile.branch([]))])
        pile.hold(box)
        pile.let_go(box)
        self.assertEqual({field: repr(value) for field, value in vars(pile).items() if field != "made"}, new)


class RefusalTest(unittest.TestCase):
    def setUp(self):
        self.pile = Pile()
        self.pile.leaf(10)
        self.pile.leaf(20)
        self.pile.leaf(30)
        self.pile.branch([("a", 1), ("b", 3)])
        self.pile.let_go(2)
        self.pile.hold(1)
        self.pile.hold(4)
        self.picture = pile_picture(self.pile)

    def no_boxes(self):
        return [0, -1, -4, 2, 5, 6, 1000, 10 ** 40, -(10 ** 40)] + no_wholes()

    def refuses(self, method, *rest):
        with self.assertRaises(NoBox) as held:
            method(*rest)
        self.assertIs(type(held.exception), NoBox)
        self.assertEqual(pile_picture(self.pile), self.picture)

    def test_what_is_refused_by_each_method(self):
        for method in (self.pile.content, self.pile.hold, self.pile.holders, self.pile.let_go):
            for thing in self.no_boxes():
                with self.subTest(method=method.__name__, thing=label(thing)):
                    self.refuses(method, thing)

    def test_what_is_refused_by_branch_at_each_row(self):
        for count in (1, 2, 3):
            for at in range(count):
                for thing in self.no_boxes():
                    rows = [(name, 1) for name in "abc"[:count]]
                    rows[at] = (rows[at][0], thing)
                    with self.subTest(count=count, at=at, thing=label(thing)):
                        self.refuses(self.pile.branch, rows)

    def test_branch_refuses_before_any_count_has_changed(self):
        self.refuses(self.pile.branch, [("a", 1), ("b", 3), ("c", 4), ("d", 2)])
        self.refuses(self.pile.branch, [("a", 1), ("b", 1), ("c", None)])

    def test_branch_refuses_its_own_number_to_be(self):
        self.refuses(self.pile.branch, [("a", 5)])

    def test_a_refused_list_stays_as_it_was(self):
        rows = [("a", 1), ("b", 2)]
        self.refuses(self.pile.branch, rows)
        self.assertEqual(rows, [("a", 1), ("b", 2)])

    def test_the_next_number_is_the_next_one_behind_refusals(self):
        for thing in self.no_boxes():
            self.refuses(self.pile.branch, [("a", thing)])
        self.assertEqual((self.pile.leaf(1), self.pile.made), (5, 5))

    def test_an_empty_pile_refuses_all(self):
        pile = Pile()
        for method in (pile.content, pile.hold, pile.holders, pile.let_go):
            for thing in [0, 1, 2, -1] + no_wholes():
                with self.subTest(method=method.__name__, thing=label(thing)):
                    self.assertRaises(NoBox, method, thing)
        self.assertRaises(NoBox, pile.branch, [("a", 1)])
        self.assertEqual((pile.made, pile.kept()), (0, []))

    def test_a_box_that_is_gone_by_another_is_refused(self):
        self.pile.let_go(4)
        self.assertEqual(self.pile.kept(), [1])
        self.picture = pile_picture(self.pile)
        for box in (2, 3, 4):
            self.refuses(self.pile.content, box)
            self.refuses(self.pile.let_go, box)
            self.refuses(self.pile.branch, [("a", 1), ("b", box)])


class OwnListsTest(unittest.TestCase):
    def setUp(self):
        self.pile = Pile()
        self.pile.leaf(1)
        self.rows = [("a", 1), ("b", 1)]
        self.pile.branch(self.rows)

    def test_the_rows_handed_in_stay_as_they_were(self):
        self.assertEqual(self.rows, [("a", 1), ("b", 1)])

    def test_rows_changed_by_hand_afterwards(self):
        self.rows.append(("c", 1))
        self.rows[0] = ("z", 77)
        self.assertEqual(self.pile.content(2), ("branch", [("a", 1), ("b", 1)]))
        self.rows.clear()
        self.assertEqual((self.pile.let_go(2), self.pile.kept()), (2, []))

    def test_content_changed_by_hand(self):
        told = self.pile.content(2)[1]
        told.append(("c", 1))
        told[0] = ("z", 77)
        self.assertEqual(self.pile.content(2), ("branch", [("a", 1), ("b", 1)]))
        told.clear()
        self.assertEqual((self.pile.let_go(2), self.pile.kept()), (2, []))

    def test_content_of_an_empty_branch_changed_by_hand(self):
        empty, other = self.pile.branch([]), self.pile.branch([])
        self.pile.content(empty)[1].append(("a", 1))
        self.assertEqual((self.pile.content(empty), self.pile.content(other)), (("branch", []), ("branch", [])))

    def test_kept_changed_by_hand(self):
        self.pile.kept().append(9)
        self.pile.kept().clear()
        self.assertEqual(self.pile.kept(), [1, 2])


class ApartTest(unittest.TestCase):
    def test_two_piles_know_nothing_of_each_other(self):
        one, other = Pile(), Pile()
        one.leaf(1)
        one.leaf(2)
        one.hold(1)
        self.assertEqual(pile_picture(other), (0, []))
        self.assertEqual((other.branch([]), other.made, one.made), (1, 1, 2))
        self.assertRaises(NoBox, other.content, 2)
        self.assertEqual((one.content(1), other.content(1)), (("leaf", 1), ("branch", [])))
        other.let_go(1)
        self.assertEqual(pile_picture(one), (2, [(1, ("leaf", 1), 1), (2, ("leaf", 2), 0)]))


class InterfaceTest(unittest.TestCase):
    def test_each_method_is_defined_in_the_class_itself(self):
        for name in ("leaf", "branch", "content", "hold", "holders", "let_go", "kept"):
            with self.subTest(name=name):
                self.assertTrue(callable(vars(Pile)[name]))
        self.assertEqual(Pile.__module__, "snaptree.pile")

    def test_arguments_have_the_names_of_the_interface(self):
        pile = Pile()
        pile.leaf(number=4)
        pile.branch(rows=[("a", 1)])
        self.assertEqual(pile.content(box=1), ("leaf", 4))
        self.assertIsNone(pile.hold(box=2))
        self.assertEqual((pile.holders(box=2), pile.let_go(box=2)), (1, 2))


if __name__ == "__main__":
    unittest.main()
