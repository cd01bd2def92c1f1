"""Brinks: the moment, and the part of it, up to which a rule does the one thing, from which on it does the other."""

from stayorgo.courses import go_passes, stay_passes
from stayorgo.kinds import is_amount, is_number, is_pair
from stayorgo.loads import entry_of
from stayorgo.mosts import require_allowance
from stayorgo.quotients import is_less, minus, over
from stayorgo.stepping import come_to
from stayorgo.usable import require_number, require_rooms, size_of


def is_brink(thing):
    """Whether thing is a brink."""
    return is_pair(thing) and is_number(thing[0]) and is_amount(thing[1]) and is_less(thing[1], (1, 1))


def are_brinks(thing):
    """Whether thing is a tuple of brinks and None."""
    return isinstance(thing, tuple) and all([brink is None or is_brink(brink) for brink in thing])


def is_brinks(size, thing):
    """Whether thing is brinks of the size."""
    return are_brinks(thing) and len(thing) == size


def brink_at(came, limit, place):
    """The brink at which what came to the place, by the moments 0, 1, .., rises above the limit, or None."""
    before = (0, 1)
    for moment, load in enumerate(came):
        by_now = entry_of(load, place)
        if is_less(limit, by_now):
            return (moment, over(minus(limit, before), minus(by_now, before)))
        before = by_now
    return None


def brinks_on(web, start, course, limits):
    """The brinks at which what comes by the course rises above the limits, a load; the last load of it is not used."""
    came = [come_to(web, start, passes) for passes in course[:-1]]
    return tuple([brink_at(came, entry_of(limits, place), place) for place in range(size_of(web))])


def go_brinks(web, start, allowance, many):
    """For each place the brink, below many, from which on go-first lets stay what comes, or None."""
    require_allowance(web, start, allowance)
    require_number(many, "many")
    return brinks_on(web, start, go_passes(web, start, allowance, many), allowance)


def stay_brinks(web, start, rooms, many):
    """For each place the brink, below many, from which on stay-first lets go what comes, or None."""
    require_rooms(web, start, rooms)
    require_number(many, "many")
    return brinks_on(web, start, stay_passes(web, start, rooms, many), rooms)
