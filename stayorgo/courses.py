"""The courses of stay-first and of go-first."""

from stayorgo.compares import greater_of, lesser_of
from stayorgo.loads import no_load, taken
from stayorgo.mosts import require_allowance
from stayorgo.stepping import come_to
from stayorgo.usable import require_number, require_rooms, size_of


def over_of(load, other):
    """At each place the greater one of 0 and load - other."""
    return taken(greater_of(load, other), other)


def stay_passes(web, start, rooms, many):
    """The list of the passes of stay-first before the moments 0 to many."""
    course = [no_load(size_of(web))]
    for _ in range(many):
        course.append(over_of(come_to(web, start, course[-1]), rooms))
    return course


def go_passes(web, start, allowance, many):
    """The list of the passes of go-first before the moments 0 to many."""
    course = [no_load(size_of(web))]
    for _ in range(many):
        course.append(lesser_of(allowance, come_to(web, start, course[-1])))
    return course


def stay_course(web, start, rooms, many):
    """The course of stay-first with the rooms, up to moment many."""
    require_rooms(web, start, rooms)
    require_number(many, "many")
    return tuple(stay_passes(web, start, rooms, many))


def go_course(web, start, allowance, many):
    """The course of go-first with the allowance, up to moment many."""
    require_allowance(web, start, allowance)
    require_number(many, "many")
    return tuple(go_passes(web, start, allowance, many))
