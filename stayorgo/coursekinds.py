"""Whether a value is a course; what stands and what has stayed by it."""

from stayorgo.compares import is_within
from stayorgo.kinds import is_load
from stayorgo.loads import no_load, taken
from stayorgo.stepping import come_to, step_of
from stayorgo.usable import require, require_load, size_of


def are_loads(size, thing):
    """Whether thing is a nonempty tuple of loads of the size."""
    return isinstance(thing, tuple) and len(thing) > 0 and all([is_load(size, load) for load in thing])


def is_growing(thing):
    """Whether thing, a tuple of loads of one size, begins with 0 everywhere, each load within the next one."""
    if thing[0] != no_load(len(thing[0][0])):
        return False
    return all([is_within(thing[t], thing[t + 1]) for t in range(len(thing) - 1)])


def goes_of(course):
    """The list of what goes on at the moments of a course."""
    return [taken(course[t + 1], course[t]) for t in range(len(course) - 1)]


def stands_of(web, start, goes):
    """The list of what stands at the moments, goes being what goes on at them."""
    return ([start] + [step_of(web, load) for load in goes])[:len(goes)]


def is_course_of(web, start, thing):
    """Whether thing is a course of some rule from the start."""
    if not (are_loads(size_of(web), thing) and is_growing(thing)):
        return False
    goes = goes_of(thing)
    stands = stands_of(web, start, goes)
    return all([is_within(goes[t], stands[t]) for t in range(len(goes))])


def require_course(web, start, course):
    """start is a load of the web's size, course a course from it."""
    require_load(web, start, "start")
    require(is_course_of(web, start, course), "course")


def is_course(web, start, thing):
    """Whether thing is a course of some rule."""
    require_load(web, start, "start")
    return is_course_of(web, start, thing)


def standing_course(web, start, course):
    """What stands at the moments 0, 1, .. of the course."""
    require_course(web, start, course)
    return tuple(stands_of(web, start, goes_of(course)))


def kept_course(web, start, course):
    """All that has stayed up to and with the moments 0, 1, .. of the course."""
    require_course(web, start, course)
    return tuple([taken(come_to(web, start, course[t]), course[t + 1]) for t in range(len(course) - 1)])
