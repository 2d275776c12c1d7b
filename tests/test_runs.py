"""Long, mixed runs of deeds beside a plain second store (points 1, 5 to 13)."""

import unittest

from helpers import Numbers, store_picture
from mirror import Mirror
from snaptree.errors import BranchThere, LeafThere, Nothing
from snaptree.store import Store


class Run:
    """A store and its mirror, and deeds that are done to both."""

    def __init__(self, test, seed, letters, depth):
        self.test = test
        self.numbers = Numbers(seed)
        self.letters = letters
        self.depth = depth
        self.store = Store()
        self.mirror = Mirror()

    def path(self):
        return [self.numbers.one_of(self.letters) for _ in range(1 + self.numbers.below(self.depth))]

    def shot(self):
        return self.numbers.one_of(self.store.shot_numbers())

    def view(self):
        return self.numbers.one_of([None] + self.store.shot_numbers())

    def deed(self):
        kind = self.numbers.below(20)
        if kind < 10:
            self.put(self.path(), self.numbers.below(3))
        elif kind < 14:
            self.cut(self.path())
        elif kind < 17 and len(self.store.shot_numbers()) < 6 or not self.store.shot_numbers():
            self.test.assertEqual(self.store.snap(), self.mirror.snap())
        elif kind < 19:
            shot = self.shot()
            self.test.assertEqual(self.store.drop(shot), self.mirror.drop(shot))
        else:
            shot = self.shot()
            self.test.assertEqual(self.store.back(shot), self.mirror.back(shot))

    def put(self, path, number):
        on_way = [self.mirror.content_at(self.mirror.top, path[:length]) for length in range(len(path))]
        if any(isinstance(content, int) for content in on_way):
            self.test.assertRaises(LeafThere, self.store.put, path, number)
        elif isinstance(self.mirror.content_at(self.mirror.top, path), dict):
            self.test.assertRaises(BranchThere, self.store.put, path, number)
        else:
            self.test.assertEqual(self.store.put(path, number), self.mirror.put(path, number))

    def cut(self, path):
        if self.mirror.at(self.mirror.top, path) is None:
            self.test.assertRaises(Nothing, self.store.cut, path)
        else:
            self.test.assertEqual(self.store.cut(path), self.mirror.cut(path))

    def top(self, view):
        return self.mirror.top if view is None else self.mirror.shots[view]

    def read(self):
        """Compare what a view tells at each place, and beside and below it."""
        view = self.view()
        for path, box in self.mirror.places(self.top(view)).items():
            content = self.mirror.boxes[box]
            if isinstance(content, dict):
                self.test.assertEqual(self.store.kind(view, path), "branch")
                self.test.assertEqual(self.store.names(view, path), sorted(content))
                self.test.assertRaises(BranchThere, self.store.value, view, path)
            else:
                self.test.assertEqual(self.store.kind(view, path), "leaf")
                self.test.assertEqual(self.store.value(view, path), content)
                self.test.assertRaises(LeafThere, self.store.names, view, path)
            if len(path) < 8:
                self.test.assertIsNone(self.store.kind(view, list(path) + ["none"]))

    def compare(self):
        one, other = self.view(), self.view()
        told = self.mirror.changes(self.top(one), self.top(other))
        self.test.assertEqual(self.store.changes(one, other), told)

    def end(self):
        """End all snapshots: what is left is the tree alone."""
        for shot in self.store.shot_numbers():
            self.test.assertEqual(self.store.drop(shot), self.mirror.drop(shot))
        self.test.assertEqual(store_picture(self.store), self.mirror.picture())


class RunTest(unittest.TestCase):
    def run_of(self, seed, count, letters, depth):
        run = Run(self, seed, letters, depth)
        for step in range(count):
            run.deed()
            with self.subTest(seed=seed, step=step):
                self.assertEqual(store_picture(run.store), run.mirror.picture())
                run.read()
                run.compare()
        run.end()

    def test_few_names_and_flat(self):
        self.run_of(1, 400, ["a", "b", "ab"], 2)

    def test_few_names_and_deep(self):
        self.run_of(2, 400, ["a", "b"], 8)

    def test_more_names(self):
        self.run_of(3, 300, ["a", "b", "c", "ca", "d", "dd", "z"], 3)

    def test_many_short_runs(self):
        for seed in range(4, 24):
            self.run_of(seed, 60, ["a", "b", "c"], 3)


if __name__ == "__main__":
    unittest.main()
