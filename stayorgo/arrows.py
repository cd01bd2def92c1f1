"""Arrows, what they lead to, closed lots and fleeting places."""

from stayorgo.kinds import is_below, is_pair, is_set
from stayorgo.usable import require, require_place, size_of


def next_places(web, place):
    """The set of the places to which arrows from place lead."""
    return tuple([j for j, number in enumerate(web[0][place]) if number > 0])


def reached_through(web, begins, passable):
    """The least set with those of begins and, with each of its places that is passable, all next places of it."""
    held = ()
    wider = begins
    while held != wider:
        held = wider
        wider = tuple(sorted(set(held) | {j for i in held if i in passable for j in next_places(web, i)}))
    return held


def reached_by(web, begins):
    """The set of the places that can be reached from one of the set begins."""
    return reached_through(web, begins, tuple(range(size_of(web))))


def is_arrow(web, thing):
    """Whether thing is a pair of places with an arrow from the first to the second."""
    if not (is_pair(thing) and all([is_below(size_of(web), place) for place in thing])):
        return False
    return web[0][thing[0]][thing[1]] > 0


def arrows_of(web):
    """All pairs (i, j) with an arrow from i to j, ascending."""
    return tuple([(i, j) for i in range(size_of(web)) for j in next_places(web, i)])


def nexts_of(web, place):
    """The set of the places to which arrows from place lead."""
    require_place(web, place, "place")
    return next_places(web, place)


def reached_from(web, place):
    """The set of the places that can be reached from place."""
    require_place(web, place, "place")
    return reached_by(web, (place,))


def closed_lots(web):
    """All closed lots, ascending."""
    reached = [reached_by(web, (place,)) for place in range(size_of(web))]
    # What all its places reach is just itself for a closed lot; each lot is told at its least place.
    return tuple([
        lot for place, lot in enumerate(reached)
        if lot[0] == place and all([reached[other] == lot for other in lot])
    ])


def fleeting_places(web):
    """The set of the places of no closed lot."""
    lots = closed_lots(web)
    return tuple([place for place in range(size_of(web)) if not any([place in lot for lot in lots])])


def lot_at(web, place):
    """The closed lot that has place, or None."""
    for lot in closed_lots(web):
        if place in lot:
            return lot
    return None


def closed_at(web, place):
    """The closed lot that has place, or None."""
    require_place(web, place, "place")
    return lot_at(web, place)


def lots_within(web, places):
    """The closed lots all of whose places are in places, ascending."""
    return tuple([lot for lot in closed_lots(web) if all([place in places for place in lot])])


def is_closed(web, thing):
    """Whether thing is a closed lot of the web."""
    return is_set(size_of(web), thing) and thing in closed_lots(web)


def is_fleeting(web, thing):
    """Whether thing is a set of fleeting places of the web."""
    if not is_set(size_of(web), thing):
        return False
    fleeting = fleeting_places(web)
    return all([place in fleeting for place in thing])


def require_closed(web, thing):
    """thing, a parameter called closed, is a closed lot."""
    require(is_closed(web, thing), "closed")


def require_barred(web, thing):
    """thing, a parameter called barred, is a set of fleeting places."""
    require(is_fleeting(web, thing), "barred")
