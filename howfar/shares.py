"""Reckoning with shares: pairs of numbers without a common part, the first parted by the second."""

from math import gcd

from howfar.forms import is_number

NOTHING = (0, 1)
WHOLE = (1, 1)


def share(over, under):
    """The share that is over parted by under."""
    common = gcd(over, under)
    return over // common, under // common


def is_share(value):
    """Whether the value is a share from 0 on, maybe more than the whole."""
    if not isinstance(value, tuple) or len(value) != 2:
        return False
    over, under = value
    return is_number(over, 0) and is_number(under, 1) and gcd(over, under) == 1


def is_less(one, other):
    """Whether the one share is less than the other."""
    return one[0] * other[1] < other[0] * one[1]


def times(one, other):
    """The one share of the other."""
    return share(one[0] * other[0], one[1] * other[1])


def plus(one, other):
    """Both shares together."""
    return share(one[0] * other[1] + other[0] * one[1], one[1] * other[1])


def lacking(one):
    """What the share lacks of the whole."""
    return one[1] - one[0], one[1]


def weighed(pairs):
    """The sum of each weight times its share, parted by the sum of the weights."""
    over, under, weights = 0, 1, 0
    for weight, (top, bottom) in pairs:
        over = over * bottom + weight * top * under
        under = under * bottom
        weights = weights + weight
    return share(over, under * weights)


def nearer(told, before, now):
    """What is told behind a telling with which the plan came from before to now."""
    if not is_less(before, now):
        return told
    # Before is less than now, so it lacks something, and this parts by no 0.
    kept = share(lacking(now)[0] * before[1], now[1] * lacking(before)[0])
    return lacking(times(lacking(told), kept))
