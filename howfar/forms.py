"""Which values are names, numbers and tellings, whatever the plan."""

MOST_LETTERS = 8
MOST_STEPS = 1000
MOST_WEIGHT = 100


def is_number(value, least, most=None):
    """Whether the value is a number from the least to the most; None is no most."""
    if not isinstance(value, int) or isinstance(value, bool):
        return False
    return least <= value and (most is None or value <= most)


def is_name(value):
    """Whether the value is a name."""
    if not isinstance(value, str) or not 1 <= len(value) <= MOST_LETTERS:
        return False
    return all("a" <= sign <= "z" for sign in value)


def is_count(value):
    """Whether the value is a number of steps that a leaf can have, or do at once."""
    return is_number(value, 1, MOST_STEPS)


def is_steps(value):
    """Whether the value is a leaf's steps: a number, or None where they aren't known."""
    return value is None or is_count(value)


def is_weight(value):
    """Whether the value is a part's weight."""
    return is_number(value, 1, MOST_WEIGHT)


def is_telling(value):
    """Whether the value has one of a telling's four forms."""
    if not isinstance(value, tuple) or len(value) < 2:
        return False
    word = value[0]
    # A word of another kind could hold itself for equal to anything.
    if not isinstance(word, str) or not is_name(value[1]):
        return False
    if word in ("did", "knows"):
        return len(value) == 3 and is_count(value[2])
    if word == "found":
        return len(value) == 5 and is_weight(value[2]) and is_name(value[3]) and is_steps(value[4])
    return word == "again" and len(value) == 2
