"""Ends within the rooms, come to by the first end."""

from stayorgo.comings import some_rule_ends
from stayorgo.compares import is_within
from stayorgo.ends import table_and_end
from stayorgo.tables import sure_table
from stayorgo.usable import require, require_load, require_rooms


def is_end_of(web, start, rooms, target):
    """Whether target is within the rooms and can be come to from start."""
    return is_within(target, rooms) and some_rule_ends(web, start, target)


def is_end(web, start, rooms, target):
    """Whether target is within the rooms and can be come to from start."""
    require_rooms(web, start, rooms)
    require_load(web, target, "target")
    # A table with target as rooms makes one with the greater rooms: nothing more is asked where there is none.
    return is_end_of(web, start, rooms, target)


def by_first(web, start, rooms, target):
    """The pair of the table of start and rooms and the table from the first end to target."""
    require_rooms(web, start, rooms)
    require_load(web, target, "target")
    table, end = table_and_end(web, start, rooms)
    require(is_end_of(web, start, rooms, target), "target")
    return (table, sure_table(web, end, target))
