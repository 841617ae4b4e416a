"""Works: leaves, and rows and bundles of works."""

from howfar.errors import BadWork
from howfar.forms import is_name, is_steps, is_weight
from howfar.trees import BUNDLE, LEAF, MOST_PARTS, ROW, is_plan, names_in


class Work:
    """What leaves, rows and bundles have in common; not made itself."""

    def __init__(self, *given):
        raise BadWork("a work is a leaf, a row or a bundle")

    def name(self):
        """The work's name."""
        raise NotImplementedError("told by leaves, rows and bundles")

    def parts(self):
        """The work's parts, pairs of a weight and a work."""
        raise NotImplementedError("told by leaves, rows and bundles")

    def steps(self):
        """A leaf's steps, None where they aren't known and of other works."""
        raise NotImplementedError("told by leaves, rows and bundles")

    def names(self):
        """The names of all works in it, each elder ahead of its parts."""
        raise NotImplementedError("told by leaves, rows and bundles")


class Leaf(Work):
    """A work without parts: its steps are a number, or None where they aren't known."""

    def __init__(self, name, steps=None):
        if not is_name(name):
            raise BadWork("a leaf's name is none")
        if not is_steps(steps):
            raise BadWork("a leaf's steps are none")
        self._tree = (LEAF, name, steps, ())

    def name(self):
        """The leaf's name."""
        return self._tree[1]

    def parts(self):
        """No parts."""
        return []

    def steps(self):
        """The leaf's steps, None where they aren't known."""
        return self._tree[2]

    def names(self):
        """The leaf's own name."""
        return names_in(self._tree)


class Row(Work):
    """Works one behind another: its parts are pairs of a weight and a work."""

    def __init__(self, name, parts):
        self._tree = elder_tree(ROW, name, parts)

    def name(self):
        """The row's name."""
        return self._tree[1]

    def parts(self):
        """The row's parts, pairs of a weight and a work."""
        return parts_of(self._tree)

    def steps(self):
        """None: a row has no steps of its own."""
        return None

    def names(self):
        """The names of all works in it, each elder ahead of its parts."""
        return names_in(self._tree)


class Bundle(Work):
    """Works at once: its parts are pairs of a weight and a work."""

    def __init__(self, name, parts):
        self._tree = elder_tree(BUNDLE, name, parts)

    def name(self):
        """The bundle's name."""
        return self._tree[1]

    def parts(self):
        """The bundle's parts, pairs of a weight and a work."""
        return parts_of(self._tree)

    def steps(self):
        """None: a bundle has no steps of its own."""
        return None

    def names(self):
        """The names of all works in it, each elder ahead of its parts."""
        return names_in(self._tree)


def tree_of(work):
    """The tree of a leaf, a row or a bundle."""
    return work._tree


def work_of(tree):
    """A new work that has this tree."""
    kind, name, steps, _ = tree
    if kind == LEAF:
        return Leaf(name, steps)
    if kind == ROW:
        return Row(name, parts_of(tree))
    return Bundle(name, parts_of(tree))


def parts_of(tree):
    """The tree's parts, pairs of a weight and a new work."""
    return [(weight, work_of(part)) for weight, part in tree[3]]


def elder_tree(kind, name, parts):
    """The tree of a row or a bundle with such a name and such parts, or BadWork."""
    if not is_name(name):
        raise BadWork("a work's name is none")
    if not isinstance(parts, list) or not 1 <= len(parts) <= MOST_PARTS:
        raise BadWork("a work's parts are none")
    if not all(is_part(part) for part in parts):
        raise BadWork("one of a work's parts is none")
    tree = (kind, name, None, tuple([(weight, tree_of(work)) for weight, work in parts]))
    if not is_plan(tree):
        raise BadWork("a work has too many works in it, too deep ones, or two of one name")
    return tree


def is_part(value):
    """Whether the value is a pair of a weight and a work."""
    if not isinstance(value, tuple) or len(value) != 2:
        return False
    return is_weight(value[0]) and is_work(value[1])


def is_work(value):
    """Whether the value is a leaf, a row or a bundle."""
    # Not Work itself: what is made of it alone is none of the three.
    return isinstance(value, (Leaf, Row, Bundle))
