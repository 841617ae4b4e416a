"""The course of a run: what a plan has become, and what its leaves did."""

from howfar.errors import BadName, BadRun
from howfar.forms import is_name, is_telling
from howfar.shares import NOTHING, WHOLE, share, times, weighed
from howfar.trees import LEAF, MOST_PARTS, MOST_WORKS
from howfar.works import tree_of


class Course:
    """A plan behind the tellings taken so far, none at first."""

    def __init__(self, plan):
        tree = tree_of(plan)
        self._top = tree[1]
        self._many = 0
        self._kinds = {}
        self._elders = {}
        self._weights = {}
        self._parts = {}
        self._steps = {}
        self._did = {}
        self._add(tree)

    def _add(self, tree):
        kind, name, steps, parts = tree
        self._kinds[name] = kind
        if kind == LEAF:
            self._steps[name] = steps
            self._did[name] = 0
        else:
            self._parts[name] = []
        for weight, part in parts:
            self._add_part(name, weight, part)

    def _add_part(self, elder, weight, tree):
        name = tree[1]
        self._elders[name] = elder
        self._weights[name] = weight
        self._parts[elder].append(name)
        self._add(tree)

    def take(self, telling):
        """Take the telling, or raise BadRun and change nothing where it can't be."""
        if not self._takes(telling):
            raise BadRun(self._many)
        self._many += 1

    def take_back(self, telling, did):
        """Take back the last telling that was taken; ahead of it the leaves did so much."""
        self._many -= 1
        self._did = dict(did)
        match telling:
            case ("knows", name, _):
                self._steps[name] = None
            case ("found", name, _, leaf, _):
                # Found parts stand behind the others, and those found later are taken back by now.
                self._parts[name].pop()
                del self._kinds[leaf], self._elders[leaf], self._weights[leaf], self._steps[leaf]
            case _:
                # Else it changed only what the leaves did.
                pass

    def did(self):
        """How many steps each leaf did, a dict by the leaves' names."""
        return dict(self._did)

    def _takes(self, telling):
        if not is_telling(telling) or not self.has(telling[1]):
            return False
        match telling:
            case ("did", name, many):
                return self._takes_did(name, many)
            case ("knows", name, steps):
                return self._takes_knows(name, steps)
            case ("found", name, weight, leaf, steps):
                return self._takes_found(name, weight, leaf, steps)
            case _:
                return self._takes_again(telling[1])

    def _takes_did(self, name, many):
        if name not in self._did:
            return False
        did = self._did[name] + many
        steps = self._steps[name]
        if steps is not None and did > steps:
            return False
        self._did[name] = did
        return True

    def _takes_knows(self, name, steps):
        if name not in self._did or self._steps[name] is not None or steps < self._did[name]:
            return False
        self._steps[name] = steps
        return True

    def _takes_found(self, name, weight, leaf, steps):
        if name not in self._parts or len(self._parts[name]) == MOST_PARTS:
            return False
        # How deep it is needn't be asked: the others among the parts are no less deep.
        if self.has(leaf) or len(self._kinds) == MOST_WORKS:
            return False
        self._add_part(name, weight, (LEAF, leaf, steps, ()))
        return True

    def _takes_again(self, name):
        for leaf in self.leaves(name):
            self._did[leaf] = 0
        return True

    def top(self):
        """The plan's own name."""
        return self._top

    def has(self, name):
        """Whether a work of the plan has this name; what is handed in may be of any kind."""
        return is_name(name) and name in self._kinds

    def leaves(self, name):
        """The names of all leaves in the work, in their turn; of a leaf its own."""
        if name in self._did:
            return [name]
        leaves = []
        for part in self._parts[name]:
            leaves.extend(self.leaves(part))
        return leaves

    def undone(self, leaf):
        """How many steps of the leaf are left, None where its steps aren't known."""
        steps = self._steps[leaf]
        return None if steps is None else steps - self._did[leaf]

    def far(self, name):
        """How far the work is, a share."""
        if name in self._parts:
            return weighed([(self._weights[part], self.far(part)) for part in self._parts[name]])
        steps = self._steps[name]
        if steps is None:
            return NOTHING
        return share(self._did[name], steps)

    def worth(self, name):
        """The share of the whole that the work is."""
        if name == self._top:
            return WHOLE
        elder = self._elders[name]
        weights = sum([self._weights[part] for part in self._parts[elder]])
        return times(self.worth(elder), share(self._weights[name], weights))

    def tree(self, name):
        """The tree that the work has become."""
        if name not in self._parts:
            return LEAF, name, self._steps[name], ()
        parts = [(self._weights[part], self.tree(part)) for part in self._parts[name]]
        return self._kinds[name], name, None, tuple(parts)


def tellings_of(run):
    """The tellings of a run that is a list, or BadRun; each may still be none."""
    if not isinstance(run, list):
        raise BadRun(0)
    return list(run)


def course_of(plan, run):
    """The plan's course behind the whole run, or BadRun."""
    course = Course(plan)
    for telling in tellings_of(run):
        course.take(telling)
    return course


def far_in(course, name=None):
    """How far the work of this name is now, the plan itself for None, or BadName."""
    if name is None:
        return course.far(course.top())
    if not course.has(name):
        raise BadName("no work has this name")
    return course.far(name)
