"""Idle rings, and the places at which by every rule something goes on at all moments."""

from stayorgo.arrows import next_places, reached_through
from stayorgo.loads import places_of
from stayorgo.rests import rest_next
from stayorgo.rings import ring_in
from stayorgo.tables import sure_table
from stayorgo.usable import size_of
from stayorgo.wishes import require_wish


def unwished(wish):
    """The set of the places at which the wish is 0."""
    return tuple([place for place, top in enumerate(wish[0]) if top == 0])


def idle_places(wish, table):
    """The set of the places at which the wish is 0 and the table above 0."""
    passed = places_of(table)
    return tuple([place for place in unwished(wish) if place in passed])


def ring_places(web, places):
    """The set of the places of all rings through places alone."""
    # A place is on such a ring exactly if some arrow begins a way from it back to it.
    return tuple([place for place in places if place in reached_through(web, next_places(web, place), places)])


def lasting_by(web, wish, table):
    """The set of the places of idle rings and of those that they lead to through places with wish 0."""
    free = unwished(wish)
    held = ring_places(web, idle_places(wish, table))
    return tuple([place for place in reached_through(web, held, free) if place in free])


def idle_ring_by(web, wish, table):
    """Any idle ring, or None."""
    return ring_in(web, idle_places(wish, table))


def idle_ring(web, start, wish):
    """Any ring at each place of which the wish is 0 and the table above 0, or None."""
    require_wish(web, start, wish)
    return idle_ring_by(web, wish, sure_table(web, start, wish))


def lasting_places(web, start, wish):
    """The set of the places at which the rests never come to 0."""
    require_wish(web, start, wish)
    return lasting_by(web, wish, sure_table(web, start, wish))


def place_deadlines(web, start, wish):
    """For each place the least moment at which go-first's rest is 0 there, or None for lasting places."""
    require_wish(web, start, wish)
    rest = sure_table(web, start, wish)
    lasting = lasting_by(web, wish, rest)
    found = {}
    moment = 0
    while len(found) + len(lasting) < size_of(web):
        for place in range(size_of(web)):
            if rest[0][place] == 0 and place not in found:
                found[place] = moment
        rest = rest_next(web, rest, wish)
        moment += 1
    return tuple([found.get(place) for place in range(size_of(web))])
