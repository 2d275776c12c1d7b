"""Names, paths and how they are written (points 1, 2 and 4, the interface of paths.py)."""

import string
import unittest

from helpers import BAD_TEXTS, label, names, no_sequences, no_texts
from snaptree import paths
from snaptree.errors import BadPath
from snaptree.paths import checked, is_name, read, written

GOOD_NAMES = ["a", "z", "m", "bc", "az", "aaaaaaaa", "zzzzzzzz", "abcdefgh", "azazazaz"]


class IsNameTest(unittest.TestCase):
    def test_names(self):
        for name in GOOD_NAMES:
            with self.subTest(name=name):
                self.assertIs(is_name(name), True)

    def test_each_small_letter_alone_and_at_each_place(self):
        for letter in string.ascii_lowercase:
            for at in range(8):
                with self.subTest(letter=letter, at=at):
                    self.assertIs(is_name(letter), True)
                    self.assertIs(is_name("m" * at + letter + "m" * (7 - at)), True)

    def test_each_length(self):
        for length in range(12):
            with self.subTest(length=length):
                self.assertIs(is_name("q" * length), 1 <= length <= 8)

    def test_texts_that_are_no_names(self):
        for text in BAD_TEXTS:
            with self.subTest(text=text.encode("unicode_escape")):
                self.assertIs(is_name(text), False)

    def test_no_other_sign_passes_at_any_place(self):
        for number in range(0x250):
            if chr(number) in string.ascii_lowercase:
                continue
            for text in (chr(number), chr(number) + "bc", "b" + chr(number) + "c", "bc" + chr(number)):
                with self.subTest(number=number, text=text.encode("unicode_escape")):
                    self.assertIs(is_name(text), False)

    def test_what_is_no_text_is_no_name(self):
        for thing in no_texts():
            with self.subTest(thing=label(thing)):
                self.assertIs(is_name(thing), False)

    def test_nothing_handed_in_is_changed(self):
        row, table = ["a"], {"a": 1}
        is_name(row)
        is_name(table)
        self.assertEqual((row, table), (["a"], {"a": 1}))


class PathCases:
    """What checked and written refuse alike: call is the one under test."""

    def refuses(self, path):
        with self.assertRaises(BadPath) as held:
            self.call(path)
        self.assertIs(held.exception.__class__, BadPath)

    def test_nine_names_and_more_are_refused(self):
        for count in (9, 10, 100):
            with self.subTest(count=count):
                self.refuses(["a"] * count)
                self.refuses(("a",) * count)

    def test_one_thing_that_is_no_name_is_refused_at_each_place(self):
        for count in (1, 2, 3, 8):
            for at in range(count):
                for thing in BAD_TEXTS + no_texts():
                    path = names(count)
                    path[at] = thing
                    with self.subTest(count=count, at=at, thing=label(thing)):
                        self.refuses(path)
                        self.refuses(tuple(path))

    def test_neither_a_list_nor_a_tuple_is_refused(self):
        for thing in no_sequences():
            with self.subTest(thing=label(thing)):
                self.refuses(thing)

    def test_a_list_that_holds_itself_is_refused(self):
        path = ["a"]
        path.append(path)
        self.refuses(path)
        self.assertEqual(len(path), 2)

    def test_the_list_handed_in_stays_as_it_was(self):
        for count in range(9):
            path = names(count)
            self.call(path)
            self.assertEqual(path, names(count))

    def test_a_refused_list_stays_as_it_was(self):
        for path in (["a"] * 9, ["a", "B", "c"], ["a", ["b"]]):
            before = [list(name) if isinstance(name, list) else name for name in path]
            self.refuses(path)
            self.assertEqual(path, before)

    def test_what_is_iterated_is_not_used_up_by_a_refusal(self):
        line = iter(["a", "b"])
        self.refuses(line)
        self.assertEqual(list(line), ["a", "b"])


class CheckedTest(PathCases, unittest.TestCase):
    def call(self, path):
        return checked(path)

    def test_lists_and_tuples_of_up_to_eight_names(self):
        for count in range(9):
            for path in (names(count), tuple(names(count))):
                with self.subTest(path=path):
                    self.assertEqual(checked(path), names(count))
                    self.assertIs(checked(path).__class__, list)

    def test_the_empty_path(self):
        self.assertEqual(checked([]), [])
        self.assertEqual(checked(()), [])

    def test_the_same_name_may_stand_twice(self):
        self.assertEqual(checked(["b", "a", "b"]), ["b", "a", "b"])

    def test_the_list_told_is_a_new_one(self):
        for path in ([], ["a"], ["a", "bc"], names(8)):
            before = list(path)
            told = checked(path)
            self.assertIsNot(told, path)
            told.append("zz")
            self.assertEqual(path, before)
            self.assertEqual(checked(path), before)

    def test_each_list_told_of_a_tuple_is_a_new_one(self):
        for path in ((), ("a", "bc")):
            first = checked(path)
            first.append("zz")
            self.assertEqual(checked(path), list(path))


class WrittenTest(PathCases, unittest.TestCase):
    def call(self, path):
        return written(path)

    def test_the_top_is_written_as_one_slash(self):
        self.assertEqual(written([]), "/")
        self.assertEqual(written(()), "/")

    def test_names_are_written_each_behind_a_slash(self):
        self.assertEqual(written(["a", "bc"]), "/a/bc")
        self.assertEqual(written(("a", "bc")), "/a/bc")
        self.assertEqual(written(["abcdefgh"]), "/abcdefgh")
        self.assertEqual(written(["z", "a", "z"]), "/z/a/z")
        self.assertEqual(written(list("abcdefgh")), "/a/b/c/d/e/f/g/h")


class ReadTest(unittest.TestCase):
    def refuses(self, line):
        with self.assertRaises(BadPath) as held:
            read(line)
        self.assertIs(held.exception.__class__, BadPath)

    def test_the_slash_alone_is_the_empty_path(self):
        self.assertEqual(read("/"), [])

    def test_lines(self):
        self.assertEqual(read("/a"), ["a"])
        self.assertEqual(read("/a/bc"), ["a", "bc"])
        self.assertEqual(read("/z/a/z"), ["z", "a", "z"])
        self.assertEqual(read("/abcdefgh"), ["abcdefgh"])

    def test_what_is_written_is_read_to_the_same_names(self):
        for count in range(9):
            for path in (names(count), tuple(names(count)), ["abcdefgh"] * count, ["z"] * count):
                with self.subTest(path=path):
                    self.assertEqual(read(written(path)), list(path))
                    self.assertIs(read(written(path)).__class__, list)

    def test_texts_that_no_path_is_written_as(self):
        lines = [
            "", "a", "a/", "a/bc", "abc", " ", "\n",
            "//", "///", "/a/", "/a/bc/", "/a//", "//a", "/a//bc", "//a/bc", "/a///b",
            " /", "/ ", "/\n", "\n/", " /a", "/a ", "/a\n", "/a/b\n", "/a\n/b", "/a\t", "/a /b", "/ a",
            "/a/b\\", "\\a", "/A", "/a/B", "/a1", "/a.b", "/.", "/..", "/a,b",
            "/abcdefghi", "/a/abcdefghi", "/abcdefghi/a",
            "/a/b/c/d/e/f/g/h/", "/a/b/c/d/e/f/g/h/i", "/a" * 9, "/a" * 1000, "/" * 9, "/" * 1000,
            "/\u00e9", "/a/\u00e9", "\u2215a", "\uff0fa", "/\uff41", "/a\u0301", "/\ud800", "/\x00", "\x00",
        ]
        for line in lines:
            with self.subTest(line=ascii(line)):
                self.refuses(line)

    def test_a_sign_that_is_no_small_letter_is_refused_at_any_place(self):
        for line in ("/", "/a", "/ab/c", "/a/b/c/d/e/f/g/h"):
            for sign in "A0 \n\t\r\x00`{_.-\\\u00e9\u0131":
                for at in range(len(line) + 1):
                    with self.subTest(line=line, sign=ascii(sign), at=at):
                        self.refuses(line[:at] + sign + line[at:])

    def test_what_is_no_text_is_refused(self):
        for thing in no_texts() + [["/", "a"], ("/a",), b"/", b"/a"]:
            with self.subTest(thing=label(thing)):
                self.refuses(thing)

    def test_a_refused_list_stays_as_it_was(self):
        path = ["a", "bc"]
        self.refuses(path)
        self.assertEqual(path, ["a", "bc"])

    def test_each_list_told_is_a_new_one(self):
        for line in ("/", "/a", "/a/bc"):
            before = list(read(line))
            read(line).append("zz")
            self.assertEqual(read(line), before)


class InterfaceTest(unittest.TestCase):
    def test_each_function_is_defined_in_paths(self):
        for name in ("is_name", "checked", "written", "read"):
            with self.subTest(name=name):
                self.assertEqual(getattr(paths, name).__module__, "snaptree.paths")

    def test_arguments_have_the_names_of_the_interface(self):
        self.assertIs(is_name(thing="a"), True)
        self.assertEqual(checked(path=["a"]), ["a"])
        self.assertEqual(written(path=["a"]), "/a")
        self.assertEqual(read(line="/a"), ["a"])


if __name__ == "__main__":
    unittest.main()
