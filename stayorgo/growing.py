"""Growing: the places at which something has to go on, found round by round."""

from stayorgo.arrows import lots_within
from stayorgo.compares import places_above
from stayorgo.loads import leveled, no_load
from stayorgo.solving import flow_on
from stayorgo.stepping import come_to
from stayorgo.usable import require_rooms, size_of


def passes_on(web, start, rooms, places):
    """The load y on places that is at each of them start + y stepped - rooms."""
    lacks = [top - room for top, room in leveled(start, rooms)]
    return flow_on(web, places, lacks, start[1] * rooms[1])


def grown(web, start, rooms):
    """The pair of the sets after each round and of the last load y, None if the last set holds a closed lot."""
    sets = []
    held = ()
    passes = no_load(size_of(web))
    while True:
        above = places_above(come_to(web, start, passes), rooms)
        if all([place in held for place in above]):
            return (tuple(sets), passes)
        held = tuple(sorted(set(held) | set(above)))
        sets.append(held)
        if lots_within(web, held):
            return (tuple(sets), None)
        passes = passes_on(web, start, rooms, held)


def growth_of(web, start, rooms):
    """The sets of places after each round of growing."""
    require_rooms(web, start, rooms)
    return grown(web, start, rooms)[0]
