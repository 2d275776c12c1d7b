"""The refusals of Snaptree."""


class SnapError(ValueError):
    """Any refusal."""


class BadPath(SnapError):
    """No path, or a text that writes none."""


class BadNumber(SnapError):
    """No number that a leaf can have."""


class Nothing(SnapError):
    """Nothing stands at the path."""


class LeafThere(SnapError):
    """A leaf stands where a branch is needed."""


class BranchThere(SnapError):
    """A branch stands where a leaf is needed."""


class NoShot(SnapError):
    """No view, or no snapshot that is there."""


class NoBox(SnapError):
    """No box that is there."""
