"""How many steps a walk takes from one place to another."""

from stayorgo.arrows import lots_within, reached_through
from stayorgo.loads import unit_load, weight_of
from stayorgo.quotients import plus
from stayorgo.solving import flow_on
from stayorgo.usable import require_place, size_of


def need_to(web, here, there):
    """The mean number of steps until a walk from here is at there, or None if it may never be there."""
    if here == there:
        return (0, 1)
    others = tuple([place for place in range(size_of(web)) if place != there])
    ahead = tuple([place for place in reached_through(web, (here,), others) if place != there])
    if lots_within(web, ahead):
        return None
    begin = unit_load(size_of(web), here)
    # Each stay at a place ahead, its own moment counted, takes one step.
    return weight_of(flow_on(web, ahead, begin[0], begin[1]))


def require_two(web, here, there):
    """here and there are places of the web."""
    require_place(web, here, "here")
    require_place(web, there, "there")


def need_between(web, here, there):
    """The mean number of steps until a walk from here is at there, or None if it may never be there."""
    require_two(web, here, there)
    return need_to(web, here, there)


def needs_of(web):
    """For each place the needs from it to each place."""
    places = range(size_of(web))
    return tuple([tuple([need_to(web, here, there) for there in places]) for here in places])


def round_trip(web, here, there):
    """The need from here to there and back, or None."""
    require_two(web, here, there)
    ahead = need_to(web, here, there)
    back = need_to(web, there, here)
    return None if ahead is None or back is None else plus(ahead, back)
