"""Plans, values and helpers that several tests need."""

from howfar.works import Bundle, Leaf, Row


class Thing:
    """A value of a kind that the program knows nothing of."""


class Same:
    """A value that holds itself for equal to anything."""

    def __eq__(self, other):
        return True

    def __hash__(self):
        return 0


# Of every kind but numbers with a point.
ODD_VALUES = [None, True, False, 0, 1, -1, 10**30, "", "a", "A", b"a", (), ("a",), [], ["a"], {}, {"a": 1},
              set(), frozenset(), range(3), len, int, Thing, Thing(), Same(), Leaf("odd", 3)]


def odd_values(*but):
    """The odd values without those of the given kinds."""
    return [value for value in ODD_VALUES if type(value) not in but]


def shape(work):
    """All that a work tells of itself and of the works in it, as plain values."""
    kind = next(word for word, known in (("leaf", Leaf), ("row", Row), ("bundle", Bundle)) if isinstance(work, known))
    return kind, work.name(), work.steps(), [(weight, shape(part)) for weight, part in work.parts()]


def pair(fraction):
    """The share that a fraction is."""
    return fraction.numerator, fraction.denominator


def leaves(names, weight=1, steps=10):
    """Parts of one weight: a leaf for each letter."""
    return [(weight, Leaf(name, steps)) for name in names]


def house():
    """A plan with a row and a bundle in it, and two leaves whose steps aren't known."""
    walls = Row("walls", [(3, Leaf("bricks", 4)), (1, Leaf("plaster"))])
    inside = Bundle("inside", [(2, Leaf("pipes", 6)), (2, Leaf("wires", 3)), (1, Leaf("paint"))])
    return Row("house", [(2, Leaf("ground", 5)), (4, walls), (3, inside)])


def nested(depth):
    """A work with so many works within one another."""
    work = Leaf("leaf", 10)
    for name in "abcdefgh"[:depth - 1]:
        work = Row(name, [(1, work)])
    return work


def crowd(many):
    """A row of at most four works with so many works in it, itself too, 7 to 25; its bundles have room for one more."""
    letters = "abcdefghijklmnopqrstuvwxyz"
    rest = many - 1
    parts = []
    while rest:
        size = min(6, rest)
        bundle = letters[:size - 1]
        letters = letters[size - 1:]
        name = "bundle" + "abcdefgh"[len(parts)]
        parts.append((1, Bundle(name, leaves(bundle)) if bundle else Leaf(name, 10)))
        rest -= size
    return Row("crowd", parts)
