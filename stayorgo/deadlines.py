"""Deadlines: whether, and when at the earliest, a wish is met for sure."""

from stayorgo.growing import grown
from stayorgo.lastings import idle_ring_by
from stayorgo.loads import no_load
from stayorgo.rests import rest_next
from stayorgo.tables import sure_table
from stayorgo.usable import size_of
from stayorgo.wishes import require_wish


def done_moment(web, wish, table):
    """The first moment at which go-first's rest is 0 everywhere; there is no idle ring."""
    rest = table
    moment = 0
    while rest != no_load(size_of(web)):
        rest = rest_next(web, rest, wish)
        moment += 1
    return moment


def has_deadline(web, start, wish):
    """Whether some sure rule with the wish as its end is done by some moment; False if there is no table."""
    require_wish(web, start, wish)
    table = grown(web, start, wish)[1]
    return table is not None and idle_ring_by(web, wish, table) is None


def deadline_of(web, start, wish):
    """The least moment by which some sure rule with the wish as its end is done, or None."""
    require_wish(web, start, wish)
    table = sure_table(web, start, wish)
    return done_moment(web, wish, table) if idle_ring_by(web, wish, table) is None else None
