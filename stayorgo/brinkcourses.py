"""The courses of brinks."""

from stayorgo.brinks import is_brinks
from stayorgo.loads import added, entry_of, load_of, no_load
from stayorgo.quotients import minus, times
from stayorgo.stepping import step_of
from stayorgo.usable import require, require_load, require_number, size_of


def early_share(brink, moment):
    """The share of what comes at the moment that counts as coming before the brink: all of it where there is none."""
    if brink is None or moment < brink[0]:
        return (1, 1)
    return brink[1] if moment == brink[0] else (0, 1)


def early_shares(brinks, many):
    """For each moment below many, and each place, the share that counts as coming before the brink."""
    return [[early_share(brink, moment) for brink in brinks] for moment in range(many)]


def late_shares(brinks, many):
    """For each moment below many, and each place, the share that counts as coming after the brink."""
    return [[minus((1, 1), share) for share in shares] for shares in early_shares(brinks, many)]


def part_of(load, shares):
    """The load that is, at each place, that share of load."""
    return load_of(tuple([times(entry_of(load, place), share) for place, share in enumerate(shares)]))


def walk_by(web, start, shares):
    """The pair of the list of the passes before each moment and of what stands at the last one.

    shares has for each moment, and each place, the share that goes on.
    """
    course = [no_load(size_of(web))]
    stands = start
    for going in shares:
        goes = part_of(stands, going)
        course.append(added(course[-1], goes))
        stands = step_of(web, goes)
    return (course, stands)


def require_brinks(web, start, brinks):
    """start is a load, brinks are brinks of the web's size."""
    require_load(web, start, "start")
    require(is_brinks(size_of(web), brinks), "brinks")


def go_by(web, start, brinks, many):
    """The course of the brinks as a go table, up to moment many."""
    require_brinks(web, start, brinks)
    require_number(many, "many")
    return tuple(walk_by(web, start, early_shares(brinks, many))[0])


def stay_by(web, start, brinks, many):
    """The course of the brinks as a stay table, up to moment many."""
    require_brinks(web, start, brinks)
    require_number(many, "many")
    return tuple(walk_by(web, start, late_shares(brinks, many))[0])
