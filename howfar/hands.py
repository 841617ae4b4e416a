"""Tallies of several hands put together."""

from howfar.errors import BadTallies
from howfar.forms import MOST_STEPS, is_name, is_number


def joined(tallies):
    """How many steps all hands did together of each leaf told of, a dict in the order of the leaves' names."""
    if not isinstance(tallies, list) or not all(is_tally(tally) for tally in tallies):
        raise BadTallies("no list of triples of a hand, a leaf and a number")
    greatest = {}
    for hand, leaf, many in tallies:
        greatest[hand, leaf] = max(many, greatest.get((hand, leaf), 0))
    together = {}
    for (_, leaf), many in greatest.items():
        together[leaf] = together.get(leaf, 0) + many
    return {leaf: together[leaf] for leaf in sorted(together)}


def is_tally(value):
    """Whether the value is a triple of a hand, a leaf and how many steps the hand did of it in all."""
    if not isinstance(value, tuple) or len(value) != 3:
        return False
    return is_name(value[0]) and is_name(value[1]) and is_number(value[2], 0, MOST_STEPS)
