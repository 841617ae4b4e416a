"""The errors that the program raises."""


class FarError(ValueError):
    """What all errors of the program are."""


class BadWork(FarError):
    """What was handed in makes no work."""


class BadName(FarError):
    """No work has this name."""


class BadRun(FarError):
    """A run holds what is no telling; its place is the number of the first such."""

    def __init__(self, place):
        super().__init__(f"no telling of a run at {place}")
        self.place = place


class BadPaces(FarError):
    """What was handed in is no paces."""


class BadTallies(FarError):
    """What was handed in is no tallies."""


class BadShares(FarError):
    """What was handed in is no share, or no list of shares."""


class BadSize(FarError):
    """So many signs make no row."""


class Unlike(FarError):
    """Two plans can't be held against one another."""


class BadRows(FarError):
    """A text holds a row that is none; its row is the number of the first such."""

    def __init__(self, row):
        super().__init__(f"no row of a text at {row}")
        self.row = row


class NoDeed(FarError):
    """There is nothing to take back."""
