"""Hopes: the chance to come into a closed lot past barred places."""

from stayorgo.arrows import closed_lots, fleeting_places, require_barred, require_closed
from stayorgo.loads import load_from
from stayorgo.solving import going_matrix, solved
from stayorgo.usable import size_of


def hope_past(web, closed, barred):
    """The hope of closed past barred."""
    free = [place for place in fleeting_places(web) if place not in barred]
    into = [sum([web[0][i][j] for j in closed]) for i in free]
    found, bottom = solved(going_matrix(web, free), into)
    hope = dict(zip(free, found))
    return load_from([bottom if i in closed else hope.get(i, 0) for i in range(size_of(web))], bottom)


def subsets_of(places):
    """All sets within the set places, ascending."""
    found = [()]
    for place in places:
        found = found + [(*held, place) for held in found]
    return sorted(found)


def all_hopes(web):
    """The list of all triples (closed, barred, hope), ascending."""
    sets = subsets_of(fleeting_places(web))
    return [(closed, barred, hope_past(web, closed, barred)) for closed in closed_lots(web) for barred in sets]


def hope_of(web, closed, barred):
    """The hope of closed past barred."""
    require_closed(web, closed)
    require_barred(web, barred)
    return hope_past(web, closed, barred)
