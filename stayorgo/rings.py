"""Rings of a web."""

from stayorgo.arrows import is_arrow
from stayorgo.kinds import is_below
from stayorgo.usable import require_places, size_of


def going_on_within(web, places):
    """The greatest set within places from each place of which an arrow leads to one of them."""
    held = ()
    kept = places
    while held != kept:
        held = kept
        kept = tuple([i for i in held if any([is_arrow(web, (i, j)) for j in held])])
    return kept


def first_next(web, place, places):
    """The first of the places to which an arrow from place leads."""
    return [j for j in places if is_arrow(web, (place, j))][0]


def ring_in(web, places):
    """Any ring with all its places in places, or None."""
    require_places(web, places, "places")
    kept = going_on_within(web, places)
    if not kept:
        return None
    way = []
    here = kept[0]
    while here not in way:
        way.append(here)
        here = first_next(web, here, kept)
    return tuple(way[way.index(here):])


def is_ring(web, thing):
    """Whether thing is a ring of the web."""
    if not (isinstance(thing, tuple) and all([is_below(size_of(web), place) for place in thing])):
        return False
    if len(thing) == 0 or len(set(thing)) != len(thing):
        return False
    return all([is_arrow(web, (thing[k - 1], thing[k])) for k in range(len(thing))])
