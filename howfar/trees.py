"""Works as trees: tuples (kind, name, steps, parts), the parts pairs of a weight and a tree.

A tree can't be changed, so works may share it without keeping what was handed in.
"""

LEAF = "leaf"
ROW = "row"
BUNDLE = "bundle"

MOST_PARTS = 6
MOST_WORKS = 20
MOST_WITHIN = 5


def names_in(tree):
    """The names of all works in the tree, each elder ahead of its parts."""
    names = [tree[1]]
    for _, part in tree[3]:
        names.extend(names_in(part))
    return names


def leaf_steps(tree):
    """The steps of each leaf in the tree, a dict by the leaves' names."""
    kind, name, steps, parts = tree
    if kind == LEAF:
        return {name: steps}
    known = {}
    for _, part in parts:
        known.update(leaf_steps(part))
    return known


def levels(tree):
    """How many works are within one another at the most, the tree itself counted."""
    deepest = 0
    for _, part in tree[3]:
        deepest = max(deepest, levels(part))
    return deepest + 1


def is_plan(tree):
    """Whether the works in the tree are as few, as flat and as differently named as a plan's."""
    names = names_in(tree)
    return len(names) <= MOST_WORKS and len(set(names)) == len(names) and levels(tree) <= MOST_WITHIN
