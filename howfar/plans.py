"""Two plans held against one another."""

from howfar.errors import Unlike
from howfar.runs import worth
from howfar.trees import leaf_steps
from howfar.works import is_work, tree_of


def apart(one, other):
    """The first leaf in order of names of which one step leaves the plans unlike far; None where they are alike."""
    steps = known_steps(one)
    if known_steps(other) != steps:
        raise Unlike("the plans have other leaves, or leaves of other steps")
    for leaf in sorted(steps):
        # A step is the same share of the leaf in both plans, so that its worth alone sets them apart.
        if worth(one, leaf) != worth(other, leaf):
            return leaf
    return None


def known_steps(plan):
    """The steps of each leaf of the plan, a dict by the leaves' names, or Unlike where some aren't known."""
    if not is_work(plan):
        raise Unlike("what is no plan has no leaves")
    steps = leaf_steps(tree_of(plan))
    if any([steps[leaf] is None for leaf in steps]):
        raise Unlike("the steps of a leaf aren't known")
    return steps
