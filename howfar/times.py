"""Time left: how many ticks a plan takes still, at the least and at the most."""

from howfar.course import course_of
from howfar.errors import BadPaces
from howfar.forms import is_name, is_number
from howfar.trees import BUNDLE, LEAF

MOST_TICKS = 1000


def left(plan, run, paces):
    """The least and the greatest time left behind the run, a pair; None where a leaf's steps aren't known."""
    course = course_of(plan, run)
    leaves = course.leaves(course.top())
    if not are_paces(paces, leaves):
        raise BadPaces("no pair of ticks for each leaf, or more than these")
    undone = {leaf: course.undone(leaf) for leaf in leaves}
    if any([undone[leaf] is None for leaf in leaves]):
        return None
    tree = course.tree(course.top())
    least = {leaf: undone[leaf] * paces[leaf][0] for leaf in leaves}
    greatest = {leaf: undone[leaf] * paces[leaf][1] for leaf in leaves}
    return time_left(tree, least), time_left(tree, greatest)


def time_left(tree, ticks):
    """The time left of a work, where each of its leaves takes so many ticks still."""
    kind, name, _, parts = tree
    if kind == LEAF:
        return ticks[name]
    each = [time_left(part, ticks) for _, part in parts]
    return max(each) if kind == BUNDLE else sum(each)


def are_paces(value, leaves):
    """Whether the value is a dict with a pace for each of the leaves and for no other name."""
    if not isinstance(value, dict) or len(value) != len(leaves):
        return False
    # A key of another kind could hold itself for equal to a leaf's name.
    if not all(is_name(name) and name in leaves for name in value):
        return False
    return all(is_pace(value[leaf]) for leaf in leaves)


def is_pace(value):
    """Whether the value is a pair of ticks, the second no less than the first."""
    if not isinstance(value, tuple) or len(value) != 2:
        return False
    return is_number(value[0], 0, MOST_TICKS) and is_number(value[1], value[0], MOST_TICKS)
