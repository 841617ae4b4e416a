"""A plan watched while it is told of."""

from howfar.course import Course, far_in
from howfar.errors import NoDeed
from howfar.shares import NOTHING, nearer
from howfar.showing import bar


class Watch:
    """A plan and the tellings told of it so far, none at first."""

    def __init__(self, plan):
        self._course = Course(plan)
        self._tellings = []
        # What the leaves did ahead of each telling.
        self._dids = []
        # What was told at first and behind each telling, so one more than the tellings.
        self._shares = [NOTHING]

    def tell(self, telling):
        """Take the telling, and tell what is told then; BadRun where it can't be."""
        before = far_in(self._course)
        did = self._course.did()
        self._course.take(telling)
        self._tellings.append(telling)
        self._dids.append(did)
        self._shares.append(nearer(self.told(), before, far_in(self._course)))
        return self.told()

    def undo(self):
        """Take the last telling back, and tell what is told then; NoDeed where there is none."""
        if not self._tellings:
            raise NoDeed("there is no telling to take back")
        self._course.take_back(self._tellings.pop(), self._dids.pop())
        self._shares.pop()
        return self.told()

    def far(self, name=None):
        """How far the work of this name is now, a share; the plan itself for None."""
        return far_in(self._course, name)

    def told(self):
        """What is told now, a share."""
        return self._shares[-1]

    def run(self):
        """The tellings that count now, a run."""
        return list(self._tellings)

    def bar(self, many=20):
        """What is told now in a row of so many signs."""
        return bar(self.told(), many)
