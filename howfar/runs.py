"""What a run of a plan tells: how far the works are, and what the plan has become."""

from howfar.course import Course, course_of, far_in, tellings_of
from howfar.errors import BadName
from howfar.shares import NOTHING, is_less, nearer
from howfar.works import work_of


def far(plan, run, name=None):
    """How far the work of this name is behind the run, a share; the plan itself for None."""
    return far_in(course_of(plan, run), name)


def told(plan, run):
    """What is told at first and behind each telling, a list of shares that never falls."""
    fars = plan_fars(plan, run)
    shown = NOTHING
    shares = [shown]
    for place in range(1, len(fars)):
        shown = nearer(shown, fars[place - 1], fars[place])
        shares.append(shown)
    return shares


def falls(plan, run):
    """The numbers of the tellings behind which the plan was less far than ahead of them."""
    fars = plan_fars(plan, run)
    return [place for place in range(len(fars) - 1) if is_less(fars[place + 1], fars[place])]


def worth(plan, name, run=None):
    """The share of the whole that the work of this name is behind the run; None is no tellings."""
    course = course_of(plan, [] if run is None else run)
    if not course.has(name):
        raise BadName("no work has this name")
    return course.worth(name)


def became(plan, run):
    """The plan that it is behind the run, a new work."""
    course = course_of(plan, run)
    return work_of(course.tree(course.top()))


def plan_fars(plan, run):
    """How far the plan is at first and behind each telling, a list of shares."""
    course = Course(plan)
    fars = [far_in(course)]
    for telling in tellings_of(run):
        course.take(telling)
        fars.append(far_in(course))
    return fars
