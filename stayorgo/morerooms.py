"""The least more room and the greatest share of the start that have a table."""

from stayorgo.gaps import all_gaps
from stayorgo.hopes import all_hopes
from stayorgo.loads import entry_of, places_of, product_of
from stayorgo.quotients import greatest_of, least_of, over
from stayorgo.usable import require_place, require_rooms


def least_more(web, start, rooms, place):
    """The least more room at place with which there is a table, or None."""
    require_rooms(web, start, rooms)
    require_place(web, place, "place")
    helped = [(gap, entry_of(hope, place)) for _, _, hope, gap in all_gaps(web, start, rooms)]
    if any([hope == (0, 1) for _, hope in helped]):
        return None
    return greatest_of([(0, 1)] + [over(gap, hope) for gap, hope in helped])


def greatest_share(web, start, rooms):
    """The greatest quotient such that it times the start and the rooms have a table, or None."""
    require_rooms(web, start, rooms)
    if not places_of(start):
        return None
    products = [(product_of(start, hope), product_of(rooms, hope)) for _, _, hope in all_hopes(web)]
    return least_of([over(room, coming) for coming, room in products if coming[0] > 0])
