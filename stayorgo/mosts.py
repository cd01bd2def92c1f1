"""The most passes within an allowance, and the last end."""

from stayorgo.arrows import reached_through
from stayorgo.compares import places_above
from stayorgo.ends import end_after
from stayorgo.loads import added, kept_on, places_of
from stayorgo.solving import flow_on
from stayorgo.stepping import come_to
from stayorgo.usable import require_load


def come_by(web, start, allowance):
    """The set of the places to which something comes within the allowance."""
    return reached_through(web, places_of(start), places_of(allowance))


def passes_through(web, start, full, free):
    """The passes that are full outside of free and let go all that comes at the places of free."""
    fixed = kept_on(full, [place for place in places_of(full) if place not in free])
    comes = come_to(web, start, fixed)
    return added(fixed, flow_on(web, free, comes[0], comes[1]))


def most_passes(web, start, allowance):
    """The least load that is at each place the lesser one of allowance and start + itself stepped."""
    # On the places to which something comes there is just one such load. So it may be looked for from above: all of
    # the allowance passes there, but for those places, found round by round, to which less comes.
    full = kept_on(allowance, come_by(web, start, allowance))
    free = ()
    passes = full
    while True:
        short = places_above(full, come_to(web, start, passes))
        if all([place in free for place in short]):
            return passes
        free = tuple(sorted(set(free) | set(short)))
        passes = passes_through(web, start, full, free)


def require_allowance(web, start, allowance):
    """start and allowance are loads of the web's size."""
    require_load(web, start, "start")
    require_load(web, allowance, "allowance")


def most_and_end(web, start, allowance):
    """The pair of the most passes and the last end."""
    passes = most_passes(web, start, allowance)
    return (passes, end_after(web, start, passes))


def come_places(web, start, allowance):
    """The set of the places to which something comes within the allowance."""
    require_allowance(web, start, allowance)
    return come_by(web, start, allowance)


def most_of(web, start, allowance):
    """The most passes within the allowance."""
    require_allowance(web, start, allowance)
    return most_passes(web, start, allowance)


def last_end(web, start, allowance):
    """What has stayed after the most passes."""
    require_allowance(web, start, allowance)
    return most_and_end(web, start, allowance)[1]
