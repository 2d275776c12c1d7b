"""The refusals: which class stands under which (the interface of errors.py)."""

import unittest

from snaptree import errors

NAMES = ("BadPath", "BadNumber", "Nothing", "LeafThere", "BranchThere", "NoShot", "NoBox")


def classes():
    return [getattr(errors, name) for name in NAMES]


def caught_by(raised, catcher):
    """Whether a handler for catcher takes what raised is raised as."""
    try:
        raise raised("why")
    except catcher:
        return True
    except errors.SnapError:
        return False


class ErrorsTest(unittest.TestCase):
    def test_snap_error_stands_directly_under_value_error(self):
        self.assertEqual(errors.SnapError.__bases__, (ValueError,))

    def test_each_class_stands_directly_under_snap_error(self):
        for error in classes():
            with self.subTest(error=error.__name__):
                self.assertEqual(error.__bases__, (errors.SnapError,))

    def test_each_is_a_class_of_its_own_with_its_own_name(self):
        self.assertEqual(len(set(classes())), len(NAMES))
        self.assertEqual([error.__name__ for error in classes()], list(NAMES))

    def test_each_is_defined_in_errors(self):
        for error in [errors.SnapError] + classes():
            with self.subTest(error=error.__name__):
                self.assertEqual(error.__module__, "snaptree.errors")

    def test_none_takes_the_refusals_of_another(self):
        for raised in classes():
            for catcher in classes():
                with self.subTest(raised=raised.__name__, catcher=catcher.__name__):
                    self.assertEqual(caught_by(raised, catcher), raised is catcher)

    def test_snap_error_and_value_error_take_each(self):
        for raised in classes():
            with self.subTest(raised=raised.__name__):
                self.assertTrue(caught_by(raised, errors.SnapError))
                self.assertTrue(caught_by(raised, ValueError))


if __name__ == "__main__":
    unittest.main()
