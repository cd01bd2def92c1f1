"""Timetables made, and made of others."""

from stayorgo.coursekinds import are_loads
from stayorgo.kinds import is_load
from stayorgo.loads import added, no_load
from stayorgo.timechecker import is_timetable
from stayorgo.usable import require


def require_timetable(size, timetable):
    """timetable is a timetable of the size."""
    require(is_timetable(size, timetable), "timetable")


def coming_at(size, timetable, moment):
    """What comes at the moment: nothing after the last one."""
    return timetable[moment][0] if moment < len(timetable) else no_load(size)


def sums_of(size, timetable, many):
    """The list of what came by the moments 0 to many - 1."""
    sums = []
    total = no_load(size)
    for moment in range(many):
        total = added(total, coming_at(size, timetable, moment))
        sums.append(total)
    return sums


def sum_of(size, timetable):
    """What came by the last moment."""
    return sums_of(size, timetable, len(timetable))[-1]


def steady_timetable(size, comings, rooms):
    """The timetable with these comings, and the rooms at each moment."""
    require(are_loads(size, comings), "comings")
    require(is_load(size, rooms), "rooms")
    return tuple([(coming, rooms) for coming in comings])


def opened(size, timetable):
    """The timetable with the rooms of the last moment at each moment."""
    require_timetable(size, timetable)
    rooms = timetable[-1][1]
    return tuple([(coming, rooms) for coming, _ in timetable])


def gathered(size, timetable):
    """The timetable with all that comes at moment 0."""
    require_timetable(size, timetable)
    first = (sum_of(size, timetable), timetable[0][1])
    return (first,) + tuple([(no_load(size), rooms) for _, rooms in timetable[1:]])


def coming_in_all(size, timetable):
    """What came by the last moment."""
    require_timetable(size, timetable)
    return sum_of(size, timetable)
