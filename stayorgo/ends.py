"""The first end, and tables with more start or fewer rooms."""

from stayorgo.compares import is_within
from stayorgo.kinds import is_load
from stayorgo.loads import added, taken
from stayorgo.stepping import come_to
from stayorgo.tables import sure_table
from stayorgo.usable import require, require_load, require_rooms


def end_after(web, start, passes):
    """What has stayed after these passes: start + passes stepped - passes."""
    return taken(come_to(web, start, passes), passes)


def table_and_end(web, start, rooms):
    """The pair of the table and the first end; NoRoom if there is none."""
    table = sure_table(web, start, rooms)
    return (table, end_after(web, start, table))


def require_fewer(rooms, thing):
    """thing, a parameter called fewer, is a load within the rooms."""
    require(is_load(len(rooms[0]), thing) and is_within(thing, rooms), "fewer")


def first_end(web, start, rooms):
    """The first end."""
    require_rooms(web, start, rooms)
    return table_and_end(web, start, rooms)[1]


def room_left(web, start, rooms):
    """The rooms less the first end."""
    require_rooms(web, start, rooms)
    return taken(rooms, table_and_end(web, start, rooms)[1])


def with_more(web, start, rooms, extra):
    """The pair of the table and the first end of start + extra with the rooms."""
    require_rooms(web, start, rooms)
    require_load(web, extra, "extra")
    return table_and_end(web, added(start, extra), rooms)


def with_less(web, start, rooms, fewer):
    """The pair of the table and the first end of start with fewer as rooms."""
    require_rooms(web, start, rooms)
    require_fewer(rooms, fewer)
    return table_and_end(web, start, fewer)
