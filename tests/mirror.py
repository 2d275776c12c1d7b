"""A second store, as slow and plain as can be, that tells what the first one must be like.

It takes no box away, counts nothing, and works out anew what can be reached.
"""


class Mirror:
    def __init__(self):
        self.boxes = {1: {}}
        self.top = 1
        self.shots = {}
        self.taken = 0
        self.was_kept = [1]

    def make(self, content):
        """A leaf is a number, a branch a dict of names and boxes."""
        self.boxes[len(self.boxes) + 1] = content
        return len(self.boxes)

    def at(self, top, path):
        """The box at a path, or None."""
        if not path:
            return top
        if not isinstance(self.boxes[top], dict) or path[0] not in self.boxes[top]:
            return None
        return self.at(self.boxes[top][path[0]], path[1:])

    def content_at(self, top, path):
        box = self.at(top, path)
        return None if box is None else self.boxes[box]

    def raised(self, path, box):
        """Branches above a path, made from the lowest up, which lead to a box."""
        for length in range(len(path) - 1, -1, -1):
            rows = dict(self.content_at(self.top, path[:length]) or {})
            rows[path[length]] = box
            box = self.make(rows)
        return box

    def put(self, path, number):
        if self.content_at(self.top, path) != number:
            self.top = self.raised(path, self.make(number))
        return self.swept()

    def cut(self, path):
        rows = dict(self.content_at(self.top, path[:-1]))
        del rows[path[-1]]
        self.top = self.raised(path[:-1], self.make(rows))
        return self.swept()

    def snap(self):
        self.taken += 1
        self.shots[self.taken] = self.top
        return self.taken

    def drop(self, shot):
        del self.shots[shot]
        return self.swept()

    def back(self, shot):
        self.top = self.shots[shot]
        return self.swept()

    def tops(self):
        return [self.top] + list(self.shots.values())

    def kept(self):
        """The boxes that can be reached, rising."""
        found, waiting = set(), self.tops()
        while waiting:
            box = waiting.pop()
            if box not in found:
                found.add(box)
                waiting.extend(self.rows(box).values())
        return sorted(found)

    def rows(self, box):
        content = self.boxes[box]
        return content if isinstance(content, dict) else {}

    def swept(self):
        """How many boxes are gone since the last deed. A box just made was never one of a state before."""
        kept = self.kept()
        gone = len([box for box in self.was_kept if box not in set(kept)])
        self.was_kept = kept
        return gone

    def picture(self):
        """What store_picture tells of the store."""
        kept = self.kept()
        led_to = self.tops() + [box for branch in kept for box in self.rows(branch).values()]
        boxes = [(box, self.told(box), led_to.count(box)) for box in kept]
        return ((len(self.boxes), boxes), self.top, sorted(self.shots.items()))

    def told(self, box):
        content = self.boxes[box]
        if isinstance(content, dict):
            return ("branch", sorted(content.items()))
        return ("leaf", content)

    def places(self, top):
        """Each path at which something stands, and its box."""
        found = {(): top}
        waiting = [()]
        while waiting:
            path = waiting.pop()
            for name, box in self.rows(found[path]).items():
                found[path + (name,)] = box
                waiting.append(path + (name,))
        return found

    def leaves(self, top):
        return {path: self.boxes[box] for path, box in self.places(top).items()
                if not isinstance(self.boxes[box], dict)}

    def changes(self, before, after):
        """Rows from a comparison of all leaves, looked-at places from the words of point 13."""
        old, new = self.leaves(before), self.leaves(after)
        rows = [(list(path), old.get(path), new.get(path)) for path in sorted({**old, **new})
                if old.get(path) != new.get(path)]
        first, second = self.places(before), self.places(after)
        looked = set()
        for path in sorted({**first, **second}):
            if (path == () or path[:-1] in looked) and first.get(path) != second.get(path):
                looked.add(path)
        return (rows, len(looked))
