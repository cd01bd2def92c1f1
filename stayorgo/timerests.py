"""What a timetable comes to at its last moment."""

from stayorgo.loads import added, no_load, taken
from stayorgo.stepping import come_to
from stayorgo.timecourses import kept_by, time_stay
from stayorgo.timemaking import require_timetable, sum_of
from stayorgo.usable import size_of


def rest_at_last(web, timetable):
    """The triple of what stands at the last moment, of the rooms left then, and of stay-first's passes before it."""
    size = size_of(web)
    course = time_stay(web, timetable, len(timetable) - 1)
    passes = course[-1]
    kept = ([no_load(size)] + kept_by(web, timetable, course))[-1]
    stands = taken(come_to(web, sum_of(size, timetable), passes), added(passes, kept))
    return (stands, taken(timetable[-1][1], kept), passes)


def at_rest(web, timetable):
    """The pair of what stands at the last moment, and of the rooms left then."""
    require_timetable(size_of(web), timetable)
    stands, left, _ = rest_at_last(web, timetable)
    return (stands, left)
