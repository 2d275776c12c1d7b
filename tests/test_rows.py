"""Rows (point 5, the interface of rows.py)."""

import string
import unittest

from snaptree import rows as rows_module
from snaptree.rows import box_of, placed, without

ROWS = [("b", 7), ("bc", 3), ("d", 7), ("m", 12)]

# A name, and the place of ROWS at which it stands or would stand.
ABSENT = [("a", 0), ("ba", 1), ("bb", 1), ("bca", 2), ("bd", 2), ("c", 2), ("da", 3), ("l", 3), ("ma", 4), ("z", 4)]


class BoxOfTest(unittest.TestCase):
    def test_names_that_are_there(self):
        self.assertEqual([box_of(ROWS, name) for name in ("b", "bc", "d", "m")], [7, 3, 7, 12])

    def test_names_that_are_not_there(self):
        for name, _ in ABSENT:
            with self.subTest(name=name):
                self.assertIsNone(box_of(ROWS, name))

    def test_no_rows_at_all(self):
        self.assertIsNone(box_of([], "a"))

    def test_one_row(self):
        self.assertEqual([box_of([("d", 4)], name) for name in ("c", "d", "e")], [None, 4, None])

    def test_names_that_differ_in_one_letter_alone(self):
        for at in range(8):
            low, name, high = ("m" * at + letter + "m" * (7 - at) for letter in "lmn")
            with self.subTest(at=at):
                self.assertEqual(box_of([(low, 1), (high, 2)], low), 1)
                self.assertEqual(box_of([(low, 1), (high, 2)], high), 2)
                self.assertIsNone(box_of([(low, 1), (high, 2)], name))

    def test_each_of_many(self):
        for count in range(1, 27):
            rows = [(letter, number) for number, letter in enumerate(string.ascii_lowercase[:count], 50)]
            for name, box in rows:
                with self.subTest(count=count, name=name):
                    self.assertEqual(box_of(rows, name), box)
                    self.assertIsNone(box_of(rows, name + "a"))

    def test_the_rows_stay_as_they_were(self):
        rows = list(ROWS)
        box_of(rows, "bc")
        box_of(rows, "c")
        self.assertEqual(rows, ROWS)


class PlacedTest(unittest.TestCase):
    def test_a_name_that_is_there_keeps_its_place(self):
        self.assertEqual(placed(ROWS, "b", 20), [("b", 20), ("bc", 3), ("d", 7), ("m", 12)])
        self.assertEqual(placed(ROWS, "bc", 20), [("b", 7), ("bc", 20), ("d", 7), ("m", 12)])
        self.assertEqual(placed(ROWS, "m", 1), [("b", 7), ("bc", 3), ("d", 7), ("m", 1)])

    def test_a_name_that_is_there_with_the_same_box(self):
        told = placed(ROWS, "d", 7)
        self.assertEqual(told, ROWS)
        self.assertIsNot(told, ROWS)

    def test_a_name_that_is_not_there_is_put_in_in_order(self):
        for name, at in ABSENT:
            with self.subTest(name=name):
                self.assertEqual(placed(ROWS, name, 5), ROWS[:at] + [(name, 5)] + ROWS[at:])

    def test_no_rows_at_all(self):
        self.assertEqual(placed([], "a", 9), [("a", 9)])

    def test_names_that_differ_in_one_letter_alone(self):
        for at in range(8):
            low, name, high = ("m" * at + letter + "m" * (7 - at) for letter in "lmn")
            with self.subTest(at=at):
                self.assertEqual(placed([(low, 1), (high, 2)], name, 3), [(low, 1), (name, 3), (high, 2)])

    def test_a_shorter_name_stands_before_a_longer_one_that_begins_so(self):
        self.assertEqual(placed([("abc", 1)], "ab", 2), [("ab", 2), ("abc", 1)])
        self.assertEqual(placed([("abc", 1)], "abcd", 2), [("abc", 1), ("abcd", 2)])

    def test_rows_grow_in_order_whatever_comes_first(self):
        rows = []
        for number, name in enumerate(["q", "c", "z", "a", "qa", "b", "zz", "p"]):
            rows = placed(rows, name, number)
        self.assertEqual(rows, [("a", 3), ("b", 5), ("c", 1), ("p", 7), ("q", 0), ("qa", 4), ("z", 2), ("zz", 6)])

    def test_the_row_is_a_tuple_and_the_list_a_list(self):
        for name in ("d", "e"):
            told = placed(ROWS, name, 5)
            self.assertIs(type(told), list)
            self.assertEqual({type(row) for row in told}, {tuple})

    def test_the_list_told_is_a_new_one(self):
        for name in ("a", "d"):
            rows = list(ROWS)
            told = placed(rows, name, 7)
            self.assertEqual(rows, ROWS)
            told.append(("z", 1))
            told[0] = ("k", 1)
            self.assertEqual(rows, ROWS)


class WithoutTest(unittest.TestCase):
    def test_a_name_that_is_there(self):
        self.assertEqual(without(ROWS, "b"), [("bc", 3), ("d", 7), ("m", 12)])
        self.assertEqual(without(ROWS, "bc"), [("b", 7), ("d", 7), ("m", 12)])
        self.assertEqual(without(ROWS, "m"), [("b", 7), ("bc", 3), ("d", 7)])

    def test_the_last_name(self):
        self.assertEqual(without([("a", 1)], "a"), [])

    def test_a_name_that_is_not_there(self):
        for name, _ in ABSENT:
            with self.subTest(name=name):
                self.assertEqual(without(ROWS, name), ROWS)

    def test_no_rows_at_all(self):
        self.assertEqual(without([], "a"), [])

    def test_names_that_differ_in_one_letter_alone(self):
        for at in range(8):
            low, name, high = ("m" * at + letter + "m" * (7 - at) for letter in "lmn")
            with self.subTest(at=at):
                self.assertEqual(without([(low, 1), (high, 2)], name), [(low, 1), (high, 2)])
                self.assertEqual(without([(low, 1), (name, 3), (high, 2)], name), [(low, 1), (high, 2)])

    def test_the_list_told_is_a_new_one(self):
        for name in ("a", "d", "m"):
            rows = list(ROWS)
            told = without(rows, name)
            self.assertIs(type(told), list)
            self.assertIsNot(told, rows)
            self.assertEqual(rows, ROWS)
            told.append(("z", 1))
            told[0] = ("k", 1)
            self.assertEqual(rows, ROWS)

    def test_the_list_told_of_no_rows_is_a_new_one(self):
        rows = []
        without(rows, "a").append(("z", 1))
        self.assertEqual(rows, [])


class InterfaceTest(unittest.TestCase):
    def test_each_function_is_defined_in_rows(self):
        for name in ("box_of", "placed", "without"):
            with self.subTest(name=name):
                self.assertEqual(getattr(rows_module, name).__module__, "snaptree.rows")

    def test_arguments_have_the_names_of_the_interface(self):
        self.assertEqual(box_of(rows=ROWS, name="d"), 7)
        self.assertEqual(placed(rows=[], name="d", box=2), [("d", 2)])
        self.assertEqual(without(rows=[("d", 2)], name="d"), [])


if __name__ == "__main__":
    unittest.main()
