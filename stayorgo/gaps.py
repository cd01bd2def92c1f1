"""Gaps: by how much the hope of what comes is above that of the rooms."""

from stayorgo.arrows import closed_lots, require_barred, require_closed
from stayorgo.hopes import all_hopes, hope_past
from stayorgo.loads import product_of
from stayorgo.quotients import greatest_of, minus
from stayorgo.tables import some_gap_of
from stayorgo.usable import require_rooms


def gap_by(start, rooms, hope):
    """The gap of the hope."""
    return minus(product_of(start, hope), product_of(rooms, hope))


def all_gaps(web, start, rooms):
    """The list of all quadruples (closed, barred, hope, gap) with a gap above 0, ascending."""
    gaps = [(closed, barred, hope, gap_by(start, rooms, hope)) for closed, barred, hope in all_hopes(web)]
    return [(closed, barred, hope, gap) for closed, barred, hope, gap in gaps if gap[0] > 0]


def gap_of(web, start, rooms, closed, barred):
    """The gap of the hope of closed past barred."""
    require_rooms(web, start, rooms)
    require_closed(web, closed)
    require_barred(web, barred)
    return gap_by(start, rooms, hope_past(web, closed, barred))


def gaps_of(web, start, rooms):
    """The set of all pairs (closed, barred) whose hope has a gap above 0."""
    require_rooms(web, start, rooms)
    return tuple([(closed, barred) for closed, barred, _, _ in all_gaps(web, start, rooms)])


def some_gap(web, start, rooms):
    """Any pair (closed, barred) whose hope has a gap above 0, or None."""
    require_rooms(web, start, rooms)
    return some_gap_of(web, start, rooms)


def lost_of(web, start, rooms):
    """For each closed lot the greatest gap of its hopes, nought if none is above 0."""
    require_rooms(web, start, rooms)
    gaps = all_gaps(web, start, rooms)
    return tuple([
        greatest_of([(0, 1)] + [gap for closed, _, _, gap in gaps if closed == lot])
        for lot in closed_lots(web)
    ])
