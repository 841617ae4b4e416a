"""Shares as they are shown: which ones of many, in a row of signs, in hundredths."""

from howfar.errors import BadShares, BadSize
from howfar.forms import is_number
from howfar.shares import WHOLE, is_less, is_share, plus

MOST_SIGNS = 100


def few(shares, off):
    """The numbers of as few shares as keep what is shown from being less than each by more than off."""
    if not are_rising(shares) or not is_share(off):
        raise BadShares("no list of shares that never falls, or no share that may be off")
    chosen = [0]
    for place in range(1, len(shares)):
        if is_less(plus(shares[chosen[-1]], off), shares[place]):
            chosen.append(place)
    return chosen


def bar(share, many=20):
    """The share in a row of so many signs."""
    if not is_within_whole(share):
        raise BadShares("no share from 0 to the whole")
    if not is_number(many, 1, MOST_SIGNS):
        raise BadSize("no number of signs from 1 to 100")
    full = rounded_down(share, many)
    return "#" * full + "." * (many - full)


def percent(share):
    """The share in hundredths."""
    if not is_within_whole(share):
        raise BadShares("no share from 0 to the whole")
    return f"{rounded_down(share, 100)} in 100"


def rounded_down(share, many):
    """The share times many, rounded down."""
    return share[0] * many // share[1]


def is_within_whole(value):
    """Whether the value is a share from 0 to the whole."""
    return is_share(value) and not is_less(WHOLE, value)


def are_rising(value):
    """Whether the value is a list of shares up to the whole, one at least, none less than the one ahead of it."""
    if not isinstance(value, list) or not value:
        return False
    if not all(is_within_whole(each) for each in value):
        return False
    return not any(is_less(value[place], value[place - 1]) for place in range(1, len(value)))
