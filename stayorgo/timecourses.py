"""The course of stay-first by a timetable."""

from stayorgo.compares import greater_of
from stayorgo.courses import over_of
from stayorgo.loads import added, no_load, taken
from stayorgo.stepping import come_to, step_of
from stayorgo.timemaking import require_timetable, sums_of
from stayorgo.usable import require_number, size_of


def rooms_at(timetable, moment):
    """The rooms at the moment: after the last one they stay as they are."""
    return timetable[min(moment, len(timetable) - 1)][1]


def time_stay(web, timetable, many):
    """The list of the passes of stay-first before the moments 0 to many."""
    course = [no_load(size_of(web))]
    for moment, came in enumerate(sums_of(size_of(web), timetable, many)):
        # What had room once may be more than what comes by later: passes never grow less.
        more = over_of(come_to(web, came, course[-1]), rooms_at(timetable, moment))
        course.append(greater_of(course[-1], more))
    return course


def kept_by(web, timetable, course):
    """The list of what had stayed by the moments of a course."""
    came = sums_of(size_of(web), timetable, len(course) - 1)
    return [taken(added(came[t], step_of(web, course[t])), course[t + 1]) for t in range(len(course) - 1)]


def time_course(web, timetable, many):
    """The course of stay-first up to moment many."""
    require_timetable(size_of(web), timetable)
    require_number(many, "many")
    return tuple(time_stay(web, timetable, many))


def time_kept(web, timetable, many):
    """What had stayed by the moments 0 to many - 1."""
    require_timetable(size_of(web), timetable)
    require_number(many, "many")
    return tuple(kept_by(web, timetable, time_stay(web, timetable, many)))
