"""The ends of brinks."""

from stayorgo.arrows import lots_within, reached_through
from stayorgo.brinkcourses import early_shares, late_shares, require_brinks, walk_by
from stayorgo.ends import end_after
from stayorgo.errors import Endless
from stayorgo.loads import added, places_of
from stayorgo.solving import flow_on
from stayorgo.tables import sure_table


def moments_of(brinks):
    """How many moments there are up to the last one of a brink; 0 if there is no brink."""
    return max([0] + [brink[0] + 1 for brink in brinks if brink is not None])


def passes_after(web, stands, free):
    """All passes of what stands if at the places of free all goes on, at the others nothing."""
    comes = reached_through(web, places_of(stands), free)
    going = tuple([place for place in comes if place in free])
    lots = lots_within(web, going)
    if lots:
        raise Endless(lots[0])
    return flow_on(web, going, stands[0], stands[1])


def end_by(web, start, shares, free):
    """The pair (end, passes) by the shares that go on at the first moments, and at free alone after these."""
    course, stands = walk_by(web, start, shares)
    passes = added(course[-1], passes_after(web, stands, free))
    return (end_after(web, start, passes), passes)


def go_end_of(web, start, brinks):
    """The pair (end, passes) of the brinks as a go table."""
    free = tuple([place for place, brink in enumerate(brinks) if brink is None])
    return end_by(web, start, early_shares(brinks, moments_of(brinks)), free)


def is_least(web, start, end, passes):
    """Whether the passes of a sure rule with this end are the table of the end."""
    return passes == sure_table(web, start, end)


def go_end(web, start, brinks):
    """The pair (end, passes) of the brinks as a go table."""
    require_brinks(web, start, brinks)
    return go_end_of(web, start, brinks)


def stay_end(web, start, brinks):
    """The pair (end, passes) of the brinks as a stay table."""
    require_brinks(web, start, brinks)
    free = tuple([place for place, brink in enumerate(brinks) if brink is not None])
    return end_by(web, start, late_shares(brinks, moments_of(brinks)), free)


def is_least_go(web, start, brinks):
    """Whether the passes of the go table are the table of its end."""
    require_brinks(web, start, brinks)
    end, passes = go_end_of(web, start, brinks)
    return is_least(web, start, end, passes)
