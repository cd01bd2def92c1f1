"""The table of a start and rooms."""

from stayorgo.arrows import fleeting_places, lots_within
from stayorgo.errors import NoRoom
from stayorgo.growing import grown
from stayorgo.usable import require_rooms


def has_table(web, start, rooms):
    """Whether start and rooms have a table."""
    return grown(web, start, rooms)[1] is not None


def gap_pair(web, held):
    """A closed lot and a barred set whose hope has a gap above 0, held being a last set of growing that holds a lot."""
    # The hope past what growing has left out is 0 outside of the last set; on it something is left over, at some
    # place of each lot within it.
    return (lots_within(web, held)[0], tuple([place for place in fleeting_places(web) if place not in held]))


def some_gap_of(web, start, rooms):
    """A pair (closed, barred) whose hope has a gap above 0, or None if there is a table."""
    sets, passes = grown(web, start, rooms)
    return gap_pair(web, sets[-1]) if passes is None else None


def sure_table(web, start, rooms):
    """The table; NoRoom if there is none."""
    sets, passes = grown(web, start, rooms)
    if passes is None:
        closed, barred = gap_pair(web, sets[-1])
        raise NoRoom(closed, barred)
    return passes


def can_stay(web, start, rooms):
    """Whether start and rooms have a table."""
    require_rooms(web, start, rooms)
    return has_table(web, start, rooms)


def table_of(web, start, rooms):
    """The table of start and rooms."""
    require_rooms(web, start, rooms)
    return sure_table(web, start, rooms)
