"""Plans and runs written anew from the document, as plainly as can be, and drawn by chance from fixed seeds."""

from fractions import Fraction

from howfar.works import Bundle, Leaf, Row

KINDS = {"row": Row, "bundle": Bundle}
NAMES = ["a", "b", "zz", "stone", "longname", "c", "d", "e", "f", "g", "h", "i", "j", "k", "l", "m", "n", "o", "p",
         "q", "r", "s", "t", "u"]


class Node:
    """A work of the model."""

    def __init__(self, kind, name, steps=None, parts=()):
        self.kind, self.name, self.steps, self.did, self.parts = kind, name, steps, 0, list(parts)

    def all(self):
        return [self] + [node for _, part in self.parts for node in part.all()]

    def depth(self):
        return 1 + max([part.depth() for _, part in self.parts], default=0)

    def fits(self):
        names = [node.name for node in self.all()]
        counts = [len(node.parts) for node in self.all() if node.kind != "leaf"]
        return (len(names) <= 20 and len(set(names)) == len(names) and self.depth() <= 5
                and all(1 <= count <= 6 for count in counts))

    def far(self):
        if self.kind == "leaf":
            return Fraction(self.did, self.steps) if self.steps else Fraction(0)
        return sum(weight * part.far() for weight, part in self.parts) / sum(weight for weight, _ in self.parts)

    def worths(self, own=Fraction(1)):
        worths = {self.name: own}
        for weight, part in self.parts:
            worths.update(part.worths(own * weight / sum(each for each, _ in self.parts)))
        return worths

    def leaves(self):
        return [node for node in self.all() if node.kind == "leaf"]

    def left(self, ticks):
        if self.kind == "leaf":
            return (self.steps - self.did) * ticks[self.name]
        each = [part.left(ticks) for _, part in self.parts]
        return sum(each) if self.kind == "row" else max(each)

    def shape(self):
        return self.kind, self.name, self.steps, [(weight, part.shape()) for weight, part in self.parts]

    def rows(self, ahead=""):
        blanks = " " * (len(ahead) - len(ahead.lstrip(" ")))
        steps = "" if self.kind != "leaf" else " ?" if self.steps is None else f" {self.steps}"
        rows = [f"{ahead}{self.kind} {self.name}{steps}"]
        return rows + [row for weight, part in self.parts for row in part.rows(f"  {blanks}{weight} ")]

    def work(self):
        if self.kind == "leaf":
            return Leaf(self.name, self.steps)
        return KINDS[self.kind](self.name, [(weight, part.work()) for weight, part in self.parts])

    def take(self, telling):
        """Whether the telling can be; then it is taken."""
        word, name, *rest = telling
        node = next((node for node in self.all() if node.name == name), None)
        if node is None:
            return False
        if word == "again":
            for each in node.all():
                each.did = 0
            return True
        if word == "found":
            weight, leaf, steps = rest
            if node.kind == "leaf" or len(node.parts) >= 6:
                return False
            node.parts.append((weight, Node("leaf", leaf, steps)))
            if not self.fits():
                node.parts.pop()
                return False
            return True
        if node.kind != "leaf":
            return False
        if word == "did":
            if node.steps is not None and rest[0] > node.steps - node.did:
                return False
            node.did += rest[0]
            return True
        if node.steps is not None or rest[0] < node.did:
            return False
        node.steps = rest[0]
        return True


def drawn_plan(draw, names, depth):
    """A work with the next of the names, that may break what a plan must keep."""
    name = names.pop()
    if depth == 1 or not names or draw.random() < 0.35:
        return Node("leaf", name, draw.choice([None, 1, 2, 3, 5, 10, 12]))
    node = Node(draw.choice(["row", "bundle"]), name)
    for _ in range(draw.randint(1, 6)):
        if names:
            node.parts.append((draw.choice([1, 1, 2, 3, 100]), drawn_plan(draw, names, depth - 1)))
    return node


def drawn_telling(draw, model):
    name = draw.choice(model.all()).name
    word = draw.choice(["did"] * 6 + ["knows", "found", "again"])
    if word == "again":
        return word, name
    if word == "found":
        return word, name, draw.randint(1, 9), draw.choice(NAMES), draw.choice([None, 1, 2, 5])
    return word, name, draw.randint(1, 4)


def fitting_plan(draw):
    """A plan that keeps all that a plan must."""
    while True:
        model = drawn_plan(draw, draw.sample(NAMES, len(NAMES)), draw.randint(1, 5))
        if model.fits():
            return model
