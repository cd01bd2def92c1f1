"""Whether a timetable can be kept, all passes and the end of stay-first, courses by a timetable."""

from stayorgo.compares import is_within
from stayorgo.coursekinds import are_loads, goes_of, is_growing
from stayorgo.ends import end_after
from stayorgo.loads import added, no_load
from stayorgo.stepping import step_of
from stayorgo.tables import has_table, sure_table
from stayorgo.timecourses import kept_by, rooms_at
from stayorgo.timemaking import coming_at, require_timetable, sum_of
from stayorgo.timerests import rest_at_last
from stayorgo.usable import require, size_of


def passes_of(web, timetable):
    """All passes of stay-first; NoRoom if it is not sure."""
    stands, left, passes = rest_at_last(web, timetable)
    return added(passes, sure_table(web, stands, left))


def time_stands(web, timetable, goes):
    """The list of what stands at the moments, goes being what goes on at them."""
    size = size_of(web)
    steps = [no_load(size)] + [step_of(web, load) for load in goes]
    return [added(coming_at(size, timetable, moment), steps[moment]) for moment in range(len(goes))]


def is_course_by(web, timetable, thing):
    """Whether thing is a course of some rule with the comings."""
    if not (are_loads(size_of(web), thing) and is_growing(thing)):
        return False
    goes = goes_of(thing)
    stands = time_stands(web, timetable, goes)
    return all([is_within(goes[t], stands[t]) for t in range(len(goes))])


def can_keep(web, timetable):
    """Whether some sure rule keeps to the timetable."""
    require_timetable(size_of(web), timetable)
    stands, left, _ = rest_at_last(web, timetable)
    return has_table(web, stands, left)


def time_passes(web, timetable):
    """All passes of stay-first."""
    require_timetable(size_of(web), timetable)
    return passes_of(web, timetable)


def time_end(web, timetable):
    """The end of stay-first."""
    require_timetable(size_of(web), timetable)
    return end_after(web, sum_of(size_of(web), timetable), passes_of(web, timetable))


def is_time_course(web, timetable, thing):
    """Whether thing is a course of some rule with the comings."""
    require_timetable(size_of(web), timetable)
    return is_course_by(web, timetable, thing)


def keeps_to(web, timetable, course):
    """Whether what had stayed by the course is at no moment more than the rooms."""
    require_timetable(size_of(web), timetable)
    require(is_course_by(web, timetable, course), "course")
    kept = kept_by(web, timetable, course)
    return all([is_within(kept[t], rooms_at(timetable, t)) for t in range(len(kept))])
